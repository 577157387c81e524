/-
  Statements of raw ones: the laws' Block.
-/
import Derived.Test.YtildkedplmjdaaaGreatDoorPaW
import Derived.Deep.RegionHeld3
import Derived.Deep.CutBlock
namespace Go.Proofs.YtildkedplmjdaaaGreatDoor
set_option maxRecDepth 100000
set_option linter.unusedVariables false
open Go.RowKit Go.Sort

def RawM.cnt : RawM → Nat
  | .nil => 0
  | .cons _ _ a b r => a.cnt + b.cnt + r.cnt + 1
theorem raw_len : ∀ r : RawM, r.len ≤ r.cnt
  | .nil => Nat.le_refl _
  | .cons _ _ a b r => by have := raw_len r; simp only [RawM.len, RawM.cnt]; omega
theorem raw_cnt : ∀ (r : RawM) (d n : Nat), d ≤ 12 → sizeL r d n ≤ 40 → n + r.cnt ≤ sizeL r d n
  | .nil, d, n, _, _ => by simp [sizeL, RawM.cnt]
  | .cons k z a b r, d, n, hd, h => by
    by_cases hn : n ≤ 40
    · rw [size_cons _ _ _ _ _ _ _ hn] at h ⊢
      have hge := size_ge r d (n + 1 + sizeM a (d + 1) + sizeM b (d + 1))
      have hd2 : d + 1 ≤ 12 := by
        have : sizeM a (d + 1) ≤ 40 := by omega
        unfold sizeM at this
        split at this <;> omega
      have ea : sizeM a (d + 1) = sizeL a (d + 1) 0 := by unfold sizeM; rw [if_neg (by omega)]
      have eb : sizeM b (d + 1) = sizeL b (d + 1) 0 := by unfold sizeM; rw [if_neg (by omega)]
      have ca := raw_cnt a (d + 1) 0 hd2 (by omega)
      have cb := raw_cnt b (d + 1) 0 hd2 (by omega)
      have cr := raw_cnt r d _ hd h
      rw [RawM.cnt]
      omega
    · rw [sizeL, if_neg hn] at h
      omega
theorem few_cnt {r : RawM} (h : FewR r) : r.cnt ≤ 40 := by
  unfold FewR sizeM at h
  rw [if_neg (by omega)] at h
  have := raw_cnt r 0 0 (by omega) h
  omega

set_option maxHeartbeats 8000000 in
theorem size_step (N : Nat) (ih : ∀ r : RawM, r.cnt < N → ∀ (w : World) (v : Value) (d : Nat), RawAt w v r → d ≤ 13 → Calls Tryz.prog 22 #[v, .int .i64 d] w fun e w' => e = .returned (.int .i64 (sizeM r d)) ∧ Only [] w w')
    (r : RawM) (hN : r.cnt ≤ N) (w : World) (v : Value) (d : Nat) (h : RawAt w v r) (hd : d ≤ 13) :
    Calls Tryz.prog 22 #[v, .int .i64 d] w fun e w' => e = .returned (.int .i64 (sizeM r d)) ∧ Only [] w w' := by
  obtain ⟨a, c, rfl, hm, hr⟩ := h
  unfold maxLen at hm
  have Hr := Lib.hid hr
  have Ih := Lib.hid ih
  clear hr ih
  unfold sizeM
  by_cases hd12 : 12 < d
  · have hdi : (12 : Int) < (d : Int) := by omega
    rw [if_pos hd12]
    go_enter Tryz.func22, Tryz.ntmps22
    go_wp2
    go_ret
    exact ⟨rfl, Only.refl _ _⟩
  · have hdi : ¬ (12 : Int) < (d : Int) := by omega
    rw [if_neg hd12]
    go_enter Tryz.func22, Tryz.ntmps22
    go_wp2_with fail
    go_loopw [5, 6] (fun nv iv wr => ∃ (j m : Nat) (rs : RawM) (xs : List Value), nv = .int .i64 m ∧ iv = .int .i64 j ∧ j + rs.len = r.len ∧ rs.cnt ≤ N ∧ EncR w rs xs ∧
      (0 < rs.len → ∃ g o, a = some ⟨g, o, none⟩ ∧ g < w.heap.size ∧ w.rangeAt g (o + j * 4) xs) ∧ sizeL r d 0 = sizeL rs d m ∧ m ≤ 20000000 ∧ Only [] w wr) (fun _ iv _ => r.len - (intOf iv).toNat)
    case atStart =>
      by_cases h0 : 0 < r.len
      · obtain ⟨g, o, xs, h1, h2, h3, h4⟩ := Hr.out h0
        exact ⟨0, 0, r, xs, rfl, rfl, by omega, hN, h4, fun _ => ⟨g, o, h1, h2, by rw [Nat.zero_mul, Nat.add_zero]; exact h3⟩, rfl, by omega, Only.refl _ _⟩
      · have hrn : r = .nil := by
          cases r with
          | nil => rfl
          | cons k n a b q => simp [RawM.len] at h0
        subst hrn
        exact ⟨0, 0, .nil, [], rfl, rfl, rfl, hN, rfl, fun h => absurd h h0, rfl, by omega, Only.refl _ _⟩
    case round =>
      obtain ⟨j, m, rs, xs, rfl, rfl, hjl, hrc, hE, hra, hs, hm2, hO⟩ := hrel
      have HO := Lib.hid hO
      have Hs := Lib.hid hs
      clear hO hs
      cases rs with
      | nil =>
        have hji : ¬ (j : Int) < (r.len : Int) := by simp only [RawM.len] at hjl; omega
        go_wp2_with fail
        go_ret
        rw [Hs.out, sizeL]
        exact ⟨rfl, HO.out⟩
      | cons k n A B rr =>
        have hji : (j : Int) < (r.len : Int) := by simp only [RawM.len] at hjl; omega
        by_cases h40 : m ≤ 40
        · have h40i : (m : Int) ≤ 40 := by omega
          obtain ⟨va, vb, xr, rfl, hA, hB, hE'⟩ := hE
          obtain ⟨g, o, hag, hg, hrx⟩ := hra (by simp [RawM.len])
          have hA' : RawAt w va A := hA
          have hB' : RawAt w vb B := hB
          obtain ⟨aa, ca, rfl, -⟩ := hA
          obtain ⟨ab, cb, rfl, -⟩ := hB
          have hcA : A.cnt < N ∧ B.cnt < N ∧ rr.cnt ≤ N := by simp only [RawM.cnt] at hrc; omega
          have hwr : IntKind.i64.wrap ((d : Int) + 1) = ((d + 1 : Nat) : Int) := by rw [Go.IntWalk.i64_in _ (by omega)]; omega
          have HA : Hid (∀ W, Only [] wr W → Calls Tryz.prog 22 #[.slice aa A.len ca, .int .i64 (IntKind.i64.wrap ((d : Int) + 1))] W fun e w' => e = .returned (.int .i64 (sizeM A (d + 1))) ∧ Only [] W w') :=
            Lib.hid (fun W hW => by rw [hwr]; exact Ih.out A hcA.1 W _ (d + 1) (hA'.more (HO.out.plus hW)) (by omega))
          have HB : Hid (∀ W, Only [] wr W → Calls Tryz.prog 22 #[.slice ab B.len cb, .int .i64 (IntKind.i64.wrap ((d : Int) + 1))] W fun e w' => e = .returned (.int .i64 (sizeM B (d + 1))) ∧ Only [] W w') :=
            Lib.hid (fun W hW => by rw [hwr]; exact Ih.out B hcA.2.1 W _ (d + 1) (hB'.more (HO.out.plus hW)) (by omega))
          have hua := sizeM_up A (d + 1) (by omega)
          have hub := sizeM_up B (d + 1) (by omega)
          have Hsc := Lib.hid (size_cons k n A B rr d m h40)
          have hcl : ∀ W, Only [] wr W → W.cell? ⟨g, o + j * 4 + 2, none⟩ = some (.slice aa A.len ca) ∧ W.cell? ⟨g, o + j * 4 + 3, none⟩ = some (.slice ab B.len cb) := fun W hW =>
            ⟨((HO.out.plus hW).cell (p := ⟨g, o + j * 4 + 2, none⟩) hg (by simp)).trans (hrx 2 _ rfl), ((HO.out.plus hW).cell (p := ⟨g, o + j * 4 + 3, none⟩) hg (by simp)).trans (hrx 3 _ rfl)⟩
          have hrx2 := Lib.hid (fun i u (hu : xr[i]? = some u) => hrx (i + 4) u hu)
          have HE := Lib.hid hE'
          have Hcl := Lib.hid hcl
          clear hrx hE' hA' hB' hra hcl
          generalize sizeM A (d + 1) = sa at *
          generalize sizeM B (d + 1) = sb at *
          clear hwr
          rw [hag]
          go_upto_region 7 with fail
          have hdr : Only [] wr wr.drew := (Only.refl [] wr).drew
          have hall := Hcl.out _ hdr
          go_region_held3 (fun W => W.cell? ⟨g, o + j * 4 + 2, none⟩ = some (.slice aa A.len ca) ∧ W.cell? ⟨g, o + j * 4 + 3, none⟩ = some (.slice ab B.len cb)) (first | exact hall | assumption)
            (first
              | (go_at_call 22
                 with_reducible refine (HA.out _ ?_).mono ?_
                 · assumption
                 rintro e w5 ⟨rfl, hO5⟩
                 have hOw5 : Only [] wr w5 := Only.plus (by assumption) hO5
                 have hall5 := Hcl.out w5 hOw5)
              | (go_at_call 22
                 with_reducible refine (HB.out _ ?_).mono ?_
                 · assumption
                 rintro e w5 ⟨rfl, hO5⟩
                 have hOw5 : Only [] wr w5 := Only.plus (by assumption) hO5
                 have hall5 := Hcl.out w5 hOw5))
          all_goals
            go_wp2
            rw [← hag]
            go_roundw
            case rel =>
              refine ⟨j + 1, m + 1 + sa + sb, rr, xr, by rw [Go.IntWalk.i64_in ((m : Int) + 1) (by omega), Go.IntWalk.i64_in ((m : Int) + 1 + sa) (by omega), Go.IntWalk.i64_in ((m : Int) + 1 + sa + sb) (by omega)]; congr 1, by go_num, by simp only [RawM.len] at hjl; omega, hcA.2.2, HE.out, fun h => ⟨g, o, hag, hg, fun i u hu => ?_⟩, by rw [Hs.out, Hsc.out], by omega, HO.out.plus (by assumption)⟩
              have := hrx2.out i u hu
              rw [show o + (j + 1) * 4 + i = o + j * 4 + (i + 4) by omega]
              exact this
            case measure => simp [intOf]; simp only [RawM.len] at hjl; omega
        · have h40i : ¬ (m : Int) ≤ 40 := by omega
          go_wp2_with fail
          go_ret
          rw [Hs.out, sizeL, if_neg h40]
          exact ⟨rfl, HO.out⟩

theorem size_any : ∀ (N : Nat) (r : RawM), r.cnt ≤ N → ∀ (w : World) (v : Value) (d : Nat), RawAt w v r → d ≤ 13 →
    Calls Tryz.prog 22 #[v, .int .i64 d] w fun e w' => e = .returned (.int .i64 (sizeM r d)) ∧ Only [] w w'
  | 0, r, hN, w, v, d, h, hd => size_step 0 (fun r h => absurd h (by omega)) r hN w v d h hd
  | N + 1, r, hN, w, v, d, h, hd => size_step (N + 1) (fun r h => size_any N r (by omega)) r hN w v d h hd

set_option maxHeartbeats 4000000 in
theorem few6_any (r : RawM) (w : World) (v : Value) (h : RawAt w v r) :
    Calls Tryz.prog 7 #[v] w fun e w' => e = .returned (.bool (decide (sizeM r 0 ≤ 40))) ∧ Only [] w w' := by
  have hu := sizeM_up r 0 (by omega)
  have H := Lib.hid (size_any _ r (Nat.le_refl _) w v 0 h (by omega))
  obtain ⟨a, c, rfl, -⟩ := h
  go_enter Tryz.func7, Tryz.ntmps7
  go_wp2_with fail
  refine H.out.mono ?_
  rintro e w1 ⟨rfl, hO⟩
  by_cases h40 : sizeM r 0 ≤ 40
  · have h40i : (sizeM r 0 : Int) ≤ 40 := by omega
    go_wp2
    go_ret
    exact ⟨by simp [h40] <;> omega, hO⟩
  · have h40i : ¬ (sizeM r 0 : Int) ≤ 40 := by omega
    go_wp2
    go_ret
    exact ⟨by simp [h40] <;> omega, hO⟩

end Go.Proofs.YtildkedplmjdaaaGreatDoor
namespace Go.Proofs.YtildkedplmjdaaaGreatDoor
set_option maxRecDepth 100000
set_option linter.unusedVariables false
open Go.RowKit Go.Sort

def MadeB (w : World) (b : Blk) : Ending → World → Prop := fun e w' => ∃ v fp, e = .returned v ∧ BlkAt w' v b fp ∧ NewB w w' fp ∧ Only [] w w'
theorem NewB.comm {w0 w : World} {fp fq : List Nat} (h : NewB w0 w (fp ++ fq)) : NewB w0 w (fq ++ fp) := by
  refine ⟨?_, fun k hk => h.2 k (by simp at hk ⊢; exact hk.symm)⟩
  obtain ⟨h1, h2, h3⟩ := List.nodup_append.1 h.1
  exact List.nodup_append.2 ⟨h2, h1, fun a ha b hb e => h3 b hb a ha e.symm⟩
theorem made_two {w0 wA wB : World} {va vb : Value} {a b : Blk} {fa fb : List Nat} (hA : BlkAt wA va a fa) (nA : NewB w0 wA fa) (hO : Only [] wA wB) (hB : BlkAt wB vb b fb) (nB : NewB wA wB fb) (h0 : w0.heap.size ≤ wA.heap.size) :
    BlkAt wB va a fa ∧ BlkAt wB vb b fb ∧ NewB w0 wB (fa ++ fb) := ⟨hA.more hO, hB, nA.app nB h0 hO.size⟩
/-- The statement's block, when its two blocks are laid in. -/
theorem made_fin {wr wd wA wB : World} {va vb x3 x4 : Value} {a b : Blk} {fa fb : List Nat} {kd : Nat} {nm : List UInt8} (hd : wr.heap.size < wd.heap.size) (hO : Only [] wr wd)
    (hq : IsBlk wB wr.heap.size (.cells #[.int .i64 kd, .int .i64 0, encStr nm, x3, x4] 85)) (hA : BlkAt wA va a fa) (nA : NewB wd wA fa) (oA : Only [] wd wA) (hB : BlkAt wB vb b fb) (nB : NewB wA wB fb) (oB : Only [] wA wB) :
    ∃ va' vb' fa' fb', IsBlk ((wB.setCell ⟨wr.heap.size, 3, none⟩ va).setCell ⟨wr.heap.size, 4, none⟩ vb) wr.heap.size (.cells #[.int .i64 kd, .int .i64 0, encStr nm, va', vb'] 85) ∧
      BlkAt ((wB.setCell ⟨wr.heap.size, 3, none⟩ va).setCell ⟨wr.heap.size, 4, none⟩ vb) va' a fa' ∧ BlkAt ((wB.setCell ⟨wr.heap.size, 3, none⟩ va).setCell ⟨wr.heap.size, 4, none⟩ vb) vb' b fb' ∧
      NewB wr ((wB.setCell ⟨wr.heap.size, 3, none⟩ va).setCell ⟨wr.heap.size, 4, none⟩ vb) (fa' ++ fb') ∧ Only [] wr ((wB.setCell ⟨wr.heap.size, 3, none⟩ va).setCell ⟨wr.heap.size, 4, none⟩ vb) := by
  obtain ⟨p1, p2, p3⟩ := made_two hA nA oB hB nB oA.size
  have hS : Only [wr.heap.size] wB ((wB.setCell ⟨wr.heap.size, 3, none⟩ va).setCell ⟨wr.heap.size, 4, none⟩ vb) := ((Only.refl [wr.heap.size] wB).setCell (p := ⟨wr.heap.size, 3, none⟩) (.inl (by simp)) _).setCell (p := ⟨wr.heap.size, 4, none⟩) (.inl (by simp)) _
  have hne : ∀ k ∈ fa ++ fb, k ∉ [wr.heap.size] := fun k hk hm => by have := (p3.2 k hk).1; simp at hm; omega
  exact ⟨va, vb, fa, fb, IsBlk.put (IsBlk.put hq 3 _) 4 _, p1.keep hS (fun k hk => hne k (by simp [hk])), p2.keep hS (fun k hk => hne k (by simp [hk])), (p3.less (by omega)).more hS.size, (hO.plus (oA.plus oB)).then hS [] (by simp) (by simp)⟩
theorem made_fin2 {wr wd wA wB : World} {va vb x3 x4 : Value} {a b : Blk} {fa fb : List Nat} {kd : Nat} {nm : List UInt8} (hd : wr.heap.size < wd.heap.size) (hO : Only [] wr wd)
    (hq : IsBlk wA wr.heap.size (.cells #[.int .i64 kd, .int .i64 0, encStr nm, x3, x4] 85)) (hB : BlkAt wB vb b fb) (nB : NewB wd wB fb) (oB : Only [] wd wB) (hA : BlkAt wA va a fa) (nA : NewB wB wA fa) (oA : Only [] wB wA) :
    ∃ va' vb' fa' fb', IsBlk ((wA.setCell ⟨wr.heap.size, 3, none⟩ va).setCell ⟨wr.heap.size, 4, none⟩ vb) wr.heap.size (.cells #[.int .i64 kd, .int .i64 0, encStr nm, va', vb'] 85) ∧
      BlkAt ((wA.setCell ⟨wr.heap.size, 3, none⟩ va).setCell ⟨wr.heap.size, 4, none⟩ vb) va' a fa' ∧ BlkAt ((wA.setCell ⟨wr.heap.size, 3, none⟩ va).setCell ⟨wr.heap.size, 4, none⟩ vb) vb' b fb' ∧
      NewB wr ((wA.setCell ⟨wr.heap.size, 3, none⟩ va).setCell ⟨wr.heap.size, 4, none⟩ vb) (fa' ++ fb') ∧ Only [] wr ((wA.setCell ⟨wr.heap.size, 3, none⟩ va).setCell ⟨wr.heap.size, 4, none⟩ vb) := by
  obtain ⟨p2, p1, p3⟩ := made_two hB nB oA hA nA oB.size
  have hS : Only [wr.heap.size] wA ((wA.setCell ⟨wr.heap.size, 3, none⟩ va).setCell ⟨wr.heap.size, 4, none⟩ vb) := ((Only.refl [wr.heap.size] wA).setCell (p := ⟨wr.heap.size, 3, none⟩) (.inl (by simp)) _).setCell (p := ⟨wr.heap.size, 4, none⟩) (.inl (by simp)) _
  have hne : ∀ k ∈ fb ++ fa, k ∉ [wr.heap.size] := fun k hk hm => by have := (p3.2 k hk).1; simp at hm; omega
  exact ⟨va, vb, fa, fb, IsBlk.put (IsBlk.put hq 3 _) 4 _, p1.keep hS (fun k hk => hne k (by simp [hk])), p2.keep hS (fun k hk => hne k (by simp [hk])), ((p3.less (by omega)).more hS.size).comm, (hO.plus (oB.plus oA)).then hS [] (by simp) (by simp)⟩
theorem blockR_step (k n : Int) (a b r : RawM) : blockR (.cons k n a b r) = (⟨kindR k, 0, nameR (kindR k) n, if 7 ≤ kindR k then blockR a else .nil, if kindR k = 7 then blockR b else .nil⟩ : StmM).one.app (blockR r) := rfl

set_option maxHeartbeats 16000000 in
theorem blockR_walk (N : Nat) (ih : ∀ r : RawM, r.cnt < N → ∀ (w : World) (v : Value), RawAt w v r → Calls Tryz.prog 17 #[v] w (MadeB w (blockR r)))
    (r : RawM) (hN : r.cnt ≤ N) (hN2 : N ≤ 100000) (w : World) (v : Value) (h : RawAt w v r) :
    Calls Tryz.prog 17 #[v] w (MadeB w (blockR r)) := by
  obtain ⟨a, c, rfl, hm, hr⟩ := h
  unfold maxLen at hm
  have Hr := Lib.hid hr
  have Ih := Lib.hid ih
  clear hr ih

  go_enter Tryz.func17, Tryz.ntmps17
  go_wp2_with fail
  go_loopg [3, 4] 1000000 (fun gk ov iv wr => ∃ (j : Nat) (rs : RawM) (xs : List Value) (b : Blk) (fp : List Nat), iv = .int .i64 j ∧ j + rs.len = r.len ∧ rs.len ≤ gk ∧ b.len = j ∧ j + rs.cnt ≤ N ∧ EncR w rs xs ∧
      (0 < rs.len → ∃ g o, a = some ⟨g, o, none⟩ ∧ g < w.heap.size ∧ w.rangeAt g (o + j * 4) xs) ∧ Hid (blockR r = b.app (blockR rs)) ∧ GrowB w wr ov b fp ∧ Only [] w wr)
  case atStart =>
    have hlc : r.len ≤ r.cnt := raw_len r
    by_cases h0 : 0 < r.len
    · obtain ⟨g, o, xs, h1, h2, h3, h4⟩ := Hr.out h0
      exact ⟨0, r, xs, .nil, [], rfl, by omega, by omega, rfl, by omega, h4, fun _ => ⟨g, o, h1, h2, by rw [Nat.zero_mul, Nat.add_zero]; exact h3⟩, Lib.hid rfl, GrowB.nil _ _, Only.refl _ _⟩
    · have hrn : r = .nil := by
        cases r with
        | nil => rfl
        | cons k n a b q => simp [RawM.len] at h0
      subst hrn
      exact ⟨0, .nil, [], .nil, [], rfl, rfl, by omega, rfl, by omega, rfl, fun h => absurd h h0, Lib.hid rfl, GrowB.nil _ _, Only.refl _ _⟩
  case round =>
    obtain ⟨j, rs, xs, b, fp, rfl, hjl, hgk, hbl, hrc, hE, hra, hX, hg, hO⟩ := hrel
    have HO := Lib.hid hO
    have Hg := Lib.hid hg
    clear hO hg
    cases rs with
    | nil =>
      have hji : ¬ (j : Int) < (r.len : Int) := by simp only [RawM.len] at hjl; omega
      go_wp2_with fail
      go_ret
      have hXo := hX.out
      rw [show blockR .nil = .nil from rfl, Blk.app_nil] at hXo
      rw [hXo]
      obtain ⟨fq, hb, hn⟩ := Hg.out.done
      exact ⟨_, fq, rfl, hb, hn, HO.out⟩
    | cons k n A B rr =>
      have hji : (j : Int) < (r.len : Int) := by simp only [RawM.len] at hjl; omega
      obtain ⟨va, vb, xr, rfl, hA, hB, hE'⟩ := hE
      obtain ⟨g, o, hag, hg, hrx⟩ := hra (by simp [RawM.len])
      have hA' := Lib.hid (show RawAt w va A from hA)
      have hB' := Lib.hid (show RawAt w vb B from hB)
      obtain ⟨aa, ca, rfl, -⟩ := hA
      obtain ⟨ab, cb, rfl, -⟩ := hB
      have hcA : A.cnt < N ∧ B.cnt < N ∧ j + 1 + rr.cnt ≤ N := by simp only [RawM.cnt] at hrc; omega
      have hcl : ∀ W, Only [] wr W → W.cell? ⟨g, o + j * 4, none⟩ = some (.int .i64 k) ∧ W.cell? ⟨g, o + j * 4 + 1, none⟩ = some (.int .i64 n) ∧ W.cell? ⟨g, o + j * 4 + 2, none⟩ = some (.slice aa A.len ca) ∧ W.cell? ⟨g, o + j * 4 + 3, none⟩ = some (.slice ab B.len cb) := fun W hW =>
        ⟨((HO.out.plus hW).cell (p := ⟨g, o + j * 4, none⟩) hg (by simp)).trans (hrx 0 _ rfl), ((HO.out.plus hW).cell (p := ⟨g, o + j * 4 + 1, none⟩) hg (by simp)).trans (hrx 1 _ rfl),
          ((HO.out.plus hW).cell (p := ⟨g, o + j * 4 + 2, none⟩) hg (by simp)).trans (hrx 2 _ rfl), ((HO.out.plus hW).cell (p := ⟨g, o + j * 4 + 3, none⟩) hg (by simp)).trans (hrx 3 _ rfl)⟩
      have hcl2 : ∀ W, Only [wr.heap.size] wr W → W.cell? ⟨g, o + j * 4 + 2, none⟩ = some (.slice aa A.len ca) ∧ W.cell? ⟨g, o + j * 4 + 3, none⟩ = some (.slice ab B.len cb) := fun W hW =>
        ⟨(hW.cell (p := ⟨g, o + j * 4 + 2, none⟩) (Nat.lt_of_lt_of_le hg HO.out.size) (by have := Nat.lt_of_lt_of_le hg HO.out.size; simp; omega)).trans (hcl wr (Only.refl _ _)).2.2.1, (hW.cell (p := ⟨g, o + j * 4 + 3, none⟩) (Nat.lt_of_lt_of_le hg HO.out.size) (by have := Nat.lt_of_lt_of_le hg HO.out.size; simp; omega)).trans (hcl wr (Only.refl _ _)).2.2.2⟩
      have hrx2 := Lib.hid (fun i u (hu : xr[i]? = some u) => hrx (i + 4) u hu)
      have HE := Lib.hid hE'
      have Hcl := Lib.hid hcl
      have Hcl2 := Lib.hid hcl2
      have hX2 := Lib.hid (hX.out.trans (by rw [blockR_step, ← Blk.app_assoc]))
      have hgw : g < wr.heap.size := Nat.lt_of_lt_of_le hg HO.out.size
      obtain ⟨hk1, hk2⟩ := kindR_le k
      have hke : (1 : Int) + (inM k 8 : Int) = (kindR k : Int) := by unfold kindR; omega
      have hi8 := inM_lti k 8 (by omega)
      clear hrx hE' hra hcl hcl2 hX
      rw [hag]
      have c0 := (Hcl.out wr (Only.refl _ _)).1
      have c1 := (Hcl.out wr (Only.refl _ _)).2.1
      go_wp2_with fail
      refine (within6_to _ k 8 (by omega) (by omega)).mono ?_
      rintro e w' ⟨rfl, rfl⟩
      rw [show (8 : Int).toNat = 8 from rfl]
      have hOa := (Only.refl [] wr).alloc (.cells #[.int .i64 (kindR k), .int .i64 0, .string ⟨#[]⟩, .slice none 0 0, .slice none 0 0] 85)
      have hq := IsBlk.made wr (.cells #[.int .i64 (kindR k), .int .i64 0, .string ⟨#[]⟩, .slice none 0 0, .slice none 0 0] 85)
      go_upto_region 6 with fail

      generalize hw3 : wr.alloc (.cells #[.int .i64 (kindR k), .int .i64 0, .string ⟨#[]⟩, .slice none 0 0, .slice none 0 0] 85) = w3 at *
      clear hw3 hke hi8 c0 c1
      have hql := hq.lt
      have hz3 := hOa.size
      have Hq := Lib.hid hq
      have Hoa := Lib.hid hOa
      have c1 := (Hcl.out w3 hOa).2.1
      have q0 := hq.cell 0
      clear hq hOa
      have hnm : ∀ kd, kd ≤ 2 → nameR kd n = varsT.getD (inM n 3) [] := fun kd h => by unfold nameR; rw [if_pos h]
      have hnl : ∀ kd, 3 ≤ kd → kd ≤ 4 → nameR kd n = locksT.getD (inM n 3) [] := fun kd h h2 => by unfold nameR; rw [if_neg (by omega), if_pos h2]
      have hnf : ∀ kd, 5 ≤ kd → kd ≤ 6 → nameR kd n = funcsT.getD (inM n 4) [] := fun kd h h2 => by unfold nameR; rw [if_neg (by omega), if_neg (by omega), if_pos h2]
      have Hnm := Lib.hid hnm
      have Hnl := Lib.hid hnl
      have Hnf := Lib.hid hnf
      have Hnz := Lib.hid (fun kd h => nameR_nil kd n h)
      clear hnm hnl hnf
      generalize kindR k = kd at *
      go_upto_block 2 with fail
      go_cut [] (fun wx => ∃ va vb fa fb, IsBlk wx wr.heap.size (.cells #[.int .i64 kd, .int .i64 0, encStr (nameR kd n), va, vb] 85) ∧ BlkAt wx va (if 7 ≤ kd then blockR A else .nil) fa ∧ BlkAt wx vb (if kd = 7 then blockR B else .nil) fb ∧ NewB wr wx (fa ++ fb) ∧ Only [] wr wx)
      case first =>
        have hkk : kd = 1 ∨ kd = 2 ∨ kd = 3 ∨ kd = 4 ∨ kd = 5 ∨ kd = 6 ∨ kd = 7 ∨ kd = 8 := by omega
        rcases hkk with e1 | e2 | e3 | e4 | e5 | e6 | e7 | e8
        · subst e1
          have hO4 := (Only.refl [] w3).alloc (.cells #[.string ⟨#[120]⟩, .string ⟨#[121]⟩, .string ⟨#[122]⟩] 9)
          have hq4 := IsBlk.made w3 (.cells #[.string ⟨#[120]⟩, .string ⟨#[121]⟩, .string ⟨#[122]⟩] 9)
          have hcT : (w3.alloc (.cells #[.string ⟨#[120]⟩, .string ⟨#[121]⟩, .string ⟨#[122]⟩] 9)).cell? ⟨w3.heap.size, inM n 3, none⟩ = some (.string ⟨(varsT.getD (inM n 3) []).toArray⟩) := table_cell varsT hq4 (inM n 3) (inM_lt n 3 (by omega))
          have hiz := inM_lti n 3 (by omega)
          have Hqb := Lib.hid (Hq.out.only hO4 (by simp))
          have hqz : wr.heap.size < (w3.alloc (.cells #[.string ⟨#[120]⟩, .string ⟨#[121]⟩, .string ⟨#[122]⟩] 9)).heap.size := Hqb.out.lt
          have hqf := Hqb.out.notFrozen 2
          have hqc := Hqb.out.cell 2
          have HO4 := Lib.hid hO4
          have Hnn := Lib.hid (Hnm.out 1)
          clear hO4 hq4
          generalize varsT.getD (inM n 3) [] = tw at *
          go_wp2_with fail
          refine (within6_to _ n 3 (by omega) (by omega)).mono ?_
          rintro e w' ⟨rfl, rfl⟩
          rw [show (3 : Int).toNat = 3 from rfl]
          go_wp2_with fail
          go_meet
          rw [Hnm.out 1 (by omega), if_neg (by omega), if_neg (by omega)]
          refine ⟨.slice none 0 0, .slice none 0 0, [], [], (IsBlk.put Hq.out 2 _).alloc _, BlkAt.nil _, BlkAt.nil _, NewB.nil _ _, ?_⟩
          exact (Hoa.out.then ((Only.refl [wr.heap.size] w3).setCell (p := ⟨wr.heap.size, 2, none⟩) (.inl (by simp)) _) [] (by simp) (by simp)).alloc _
        · subst e2
          have hO4 := (Only.refl [] w3).alloc (.cells #[.string ⟨#[120]⟩, .string ⟨#[121]⟩, .string ⟨#[122]⟩] 9)
          have hq4 := IsBlk.made w3 (.cells #[.string ⟨#[120]⟩, .string ⟨#[121]⟩, .string ⟨#[122]⟩] 9)
          have hcT : (w3.alloc (.cells #[.string ⟨#[120]⟩, .string ⟨#[121]⟩, .string ⟨#[122]⟩] 9)).cell? ⟨w3.heap.size, inM n 3, none⟩ = some (.string ⟨(varsT.getD (inM n 3) []).toArray⟩) := table_cell varsT hq4 (inM n 3) (inM_lt n 3 (by omega))
          have hiz := inM_lti n 3 (by omega)
          have Hqb := Lib.hid (Hq.out.only hO4 (by simp))
          have hqz : wr.heap.size < (w3.alloc (.cells #[.string ⟨#[120]⟩, .string ⟨#[121]⟩, .string ⟨#[122]⟩] 9)).heap.size := Hqb.out.lt
          have hqf := Hqb.out.notFrozen 2
          have hqc := Hqb.out.cell 2
          have HO4 := Lib.hid hO4
          have Hnn := Lib.hid (Hnm.out 2)
          clear hO4 hq4
          generalize varsT.getD (inM n 3) [] = tw at *
          go_wp2_with fail
          refine (within6_to _ n 3 (by omega) (by omega)).mono ?_
          rintro e w' ⟨rfl, rfl⟩
          rw [show (3 : Int).toNat = 3 from rfl]
          go_wp2_with fail
          go_meet
          rw [Hnm.out 2 (by omega), if_neg (by omega), if_neg (by omega)]
          refine ⟨.slice none 0 0, .slice none 0 0, [], [], (IsBlk.put Hq.out 2 _).alloc _, BlkAt.nil _, BlkAt.nil _, NewB.nil _ _, ?_⟩
          exact (Hoa.out.then ((Only.refl [wr.heap.size] w3).setCell (p := ⟨wr.heap.size, 2, none⟩) (.inl (by simp)) _) [] (by simp) (by simp)).alloc _
        · subst e3
          have hO4 := (Only.refl [] w3).alloc (.cells #[.string ⟨#[108]⟩, .string ⟨#[109]⟩, .string ⟨#[110]⟩] 9)
          have hq4 := IsBlk.made w3 (.cells #[.string ⟨#[108]⟩, .string ⟨#[109]⟩, .string ⟨#[110]⟩] 9)
          have hcT : (w3.alloc (.cells #[.string ⟨#[108]⟩, .string ⟨#[109]⟩, .string ⟨#[110]⟩] 9)).cell? ⟨w3.heap.size, inM n 3, none⟩ = some (.string ⟨(locksT.getD (inM n 3) []).toArray⟩) := table_cell locksT hq4 (inM n 3) (inM_lt n 3 (by omega))
          have hiz := inM_lti n 3 (by omega)
          have Hqb := Lib.hid (Hq.out.only hO4 (by simp))
          have hqz : wr.heap.size < (w3.alloc (.cells #[.string ⟨#[108]⟩, .string ⟨#[109]⟩, .string ⟨#[110]⟩] 9)).heap.size := Hqb.out.lt
          have hqf := Hqb.out.notFrozen 2
          have hqc := Hqb.out.cell 2
          have HO4 := Lib.hid hO4
          have Hnn := Lib.hid (Hnl.out 3)
          clear hO4 hq4
          generalize locksT.getD (inM n 3) [] = tw at *
          go_wp2_with fail
          refine (within6_to _ n 3 (by omega) (by omega)).mono ?_
          rintro e w' ⟨rfl, rfl⟩
          rw [show (3 : Int).toNat = 3 from rfl]
          go_wp2_with fail
          go_meet
          rw [Hnl.out 3 (by omega) (by omega), if_neg (by omega), if_neg (by omega)]
          refine ⟨.slice none 0 0, .slice none 0 0, [], [], (IsBlk.put Hq.out 2 _).alloc _, BlkAt.nil _, BlkAt.nil _, NewB.nil _ _, ?_⟩
          exact (Hoa.out.then ((Only.refl [wr.heap.size] w3).setCell (p := ⟨wr.heap.size, 2, none⟩) (.inl (by simp)) _) [] (by simp) (by simp)).alloc _
        · subst e4
          have hO4 := (Only.refl [] w3).alloc (.cells #[.string ⟨#[108]⟩, .string ⟨#[109]⟩, .string ⟨#[110]⟩] 9)
          have hq4 := IsBlk.made w3 (.cells #[.string ⟨#[108]⟩, .string ⟨#[109]⟩, .string ⟨#[110]⟩] 9)
          have hcT : (w3.alloc (.cells #[.string ⟨#[108]⟩, .string ⟨#[109]⟩, .string ⟨#[110]⟩] 9)).cell? ⟨w3.heap.size, inM n 3, none⟩ = some (.string ⟨(locksT.getD (inM n 3) []).toArray⟩) := table_cell locksT hq4 (inM n 3) (inM_lt n 3 (by omega))
          have hiz := inM_lti n 3 (by omega)
          have Hqb := Lib.hid (Hq.out.only hO4 (by simp))
          have hqz : wr.heap.size < (w3.alloc (.cells #[.string ⟨#[108]⟩, .string ⟨#[109]⟩, .string ⟨#[110]⟩] 9)).heap.size := Hqb.out.lt
          have hqf := Hqb.out.notFrozen 2
          have hqc := Hqb.out.cell 2
          have HO4 := Lib.hid hO4
          have Hnn := Lib.hid (Hnl.out 4)
          clear hO4 hq4
          generalize locksT.getD (inM n 3) [] = tw at *
          go_wp2_with fail
          refine (within6_to _ n 3 (by omega) (by omega)).mono ?_
          rintro e w' ⟨rfl, rfl⟩
          rw [show (3 : Int).toNat = 3 from rfl]
          go_wp2_with fail
          go_meet
          rw [Hnl.out 4 (by omega) (by omega), if_neg (by omega), if_neg (by omega)]
          refine ⟨.slice none 0 0, .slice none 0 0, [], [], (IsBlk.put Hq.out 2 _).alloc _, BlkAt.nil _, BlkAt.nil _, NewB.nil _ _, ?_⟩
          exact (Hoa.out.then ((Only.refl [wr.heap.size] w3).setCell (p := ⟨wr.heap.size, 2, none⟩) (.inl (by simp)) _) [] (by simp) (by simp)).alloc _
        · subst e5
          have hO4 := (Only.refl [] w3).alloc (.cells #[.string ⟨#[102]⟩, .string ⟨#[103]⟩, .string ⟨#[104]⟩, .string ⟨#[109, 97, 105, 110]⟩] 9)
          have hq4 := IsBlk.made w3 (.cells #[.string ⟨#[102]⟩, .string ⟨#[103]⟩, .string ⟨#[104]⟩, .string ⟨#[109, 97, 105, 110]⟩] 9)
          have hcT : (w3.alloc (.cells #[.string ⟨#[102]⟩, .string ⟨#[103]⟩, .string ⟨#[104]⟩, .string ⟨#[109, 97, 105, 110]⟩] 9)).cell? ⟨w3.heap.size, inM n 4, none⟩ = some (.string ⟨(funcsT.getD (inM n 4) []).toArray⟩) := table_cell funcsT hq4 (inM n 4) (inM_lt n 4 (by omega))
          have hiz := inM_lti n 4 (by omega)
          have Hqb := Lib.hid (Hq.out.only hO4 (by simp))
          have hqz : wr.heap.size < (w3.alloc (.cells #[.string ⟨#[102]⟩, .string ⟨#[103]⟩, .string ⟨#[104]⟩, .string ⟨#[109, 97, 105, 110]⟩] 9)).heap.size := Hqb.out.lt
          have hqf := Hqb.out.notFrozen 2
          have hqc := Hqb.out.cell 2
          have HO4 := Lib.hid hO4
          have Hnn := Lib.hid (Hnf.out 5)
          clear hO4 hq4
          generalize funcsT.getD (inM n 4) [] = tw at *
          go_wp2_with fail
          refine (within6_to _ n 4 (by omega) (by omega)).mono ?_
          rintro e w' ⟨rfl, rfl⟩
          rw [show (4 : Int).toNat = 4 from rfl]
          go_wp2_with fail
          go_meet
          rw [Hnf.out 5 (by omega) (by omega), if_neg (by omega), if_neg (by omega)]
          refine ⟨.slice none 0 0, .slice none 0 0, [], [], (IsBlk.put Hq.out 2 _).alloc _, BlkAt.nil _, BlkAt.nil _, NewB.nil _ _, ?_⟩
          exact (Hoa.out.then ((Only.refl [wr.heap.size] w3).setCell (p := ⟨wr.heap.size, 2, none⟩) (.inl (by simp)) _) [] (by simp) (by simp)).alloc _
        · subst e6
          have hO4 := (Only.refl [] w3).alloc (.cells #[.string ⟨#[102]⟩, .string ⟨#[103]⟩, .string ⟨#[104]⟩, .string ⟨#[109, 97, 105, 110]⟩] 9)
          have hq4 := IsBlk.made w3 (.cells #[.string ⟨#[102]⟩, .string ⟨#[103]⟩, .string ⟨#[104]⟩, .string ⟨#[109, 97, 105, 110]⟩] 9)
          have hcT : (w3.alloc (.cells #[.string ⟨#[102]⟩, .string ⟨#[103]⟩, .string ⟨#[104]⟩, .string ⟨#[109, 97, 105, 110]⟩] 9)).cell? ⟨w3.heap.size, inM n 4, none⟩ = some (.string ⟨(funcsT.getD (inM n 4) []).toArray⟩) := table_cell funcsT hq4 (inM n 4) (inM_lt n 4 (by omega))
          have hiz := inM_lti n 4 (by omega)
          have Hqb := Lib.hid (Hq.out.only hO4 (by simp))
          have hqz : wr.heap.size < (w3.alloc (.cells #[.string ⟨#[102]⟩, .string ⟨#[103]⟩, .string ⟨#[104]⟩, .string ⟨#[109, 97, 105, 110]⟩] 9)).heap.size := Hqb.out.lt
          have hqf := Hqb.out.notFrozen 2
          have hqc := Hqb.out.cell 2
          have HO4 := Lib.hid hO4
          have Hnn := Lib.hid (Hnf.out 6)
          clear hO4 hq4
          generalize funcsT.getD (inM n 4) [] = tw at *
          go_wp2_with fail
          refine (within6_to _ n 4 (by omega) (by omega)).mono ?_
          rintro e w' ⟨rfl, rfl⟩
          rw [show (4 : Int).toNat = 4 from rfl]
          go_wp2_with fail
          go_meet
          rw [Hnf.out 6 (by omega) (by omega), if_neg (by omega), if_neg (by omega)]
          refine ⟨.slice none 0 0, .slice none 0 0, [], [], (IsBlk.put Hq.out 2 _).alloc _, BlkAt.nil _, BlkAt.nil _, NewB.nil _ _, ?_⟩
          exact (Hoa.out.then ((Only.refl [wr.heap.size] w3).setCell (p := ⟨wr.heap.size, 2, none⟩) (.inl (by simp)) _) [] (by simp) (by simp)).alloc _
        · subst e7
          have HA : Hid (∀ W, Only [] w3 W → Calls Tryz.prog 17 #[.slice aa A.len ca] W fun e w' => ∃ v fp, e = .returned v ∧ BlkAt w' v (blockR A) fp ∧ NewB W w' fp ∧ Only [] W w') :=
            Lib.hid (fun W hW => Ih.out A hcA.1 W _ (hA'.out.more (HO.out.plus (Hoa.out.plus hW))))
          have HB : Hid (∀ W, Only [] w3 W → Calls Tryz.prog 17 #[.slice ab B.len cb] W fun e w' => ∃ v fp, e = .returned v ∧ BlkAt w' v (blockR B) fp ∧ NewB W w' fp ∧ Only [] W w') :=
            Lib.hid (fun W hW => Ih.out B hcA.2.1 W _ (hB'.out.more (HO.out.plus (Hoa.out.plus hW))))
          go_upto_region 18 with fail
          have hdr : Only [] w3 w3.drew := (Only.refl [] w3).drew
          have hall := Hcl.out _ (Hoa.out.plus hdr)
          go_region_held3 (fun W => W.cell? ⟨g, o + j * 4 + 2, none⟩ = some (.slice aa A.len ca) ∧ W.cell? ⟨g, o + j * 4 + 3, none⟩ = some (.slice ab B.len cb)) (first | exact hall.2.2 | exact hallA.2.2 | exact hallB.2.2 | exact Hcl2.out _ (((Hoa.out.plus HOwA.out).into (by simp)).setCell (p := ⟨wr.heap.size, 3, none⟩) (.inl (by simp)) _) | exact Hcl2.out _ (((Hoa.out.plus HOwB.out).into (by simp)).setCell (p := ⟨wr.heap.size, 3, none⟩) (.inl (by simp)) _) | exact Hcl2.out _ (((Hoa.out.plus HOwA.out).into (by simp)).setCell (p := ⟨wr.heap.size, 4, none⟩) (.inl (by simp)) _) | exact Hcl2.out _ (((Hoa.out.plus HOwB.out).into (by simp)).setCell (p := ⟨wr.heap.size, 4, none⟩) (.inl (by simp)) _) | exact Hcl2.out _ ((((Hoa.out.plus HOwA.out).into (by simp)).setCell (p := ⟨wr.heap.size, 3, none⟩) (.inl (by simp)) _).setCell (p := ⟨wr.heap.size, 4, none⟩) (.inl (by simp)) _) | exact Hcl2.out _ ((((Hoa.out.plus HOwB.out).into (by simp)).setCell (p := ⟨wr.heap.size, 3, none⟩) (.inl (by simp)) _).setCell (p := ⟨wr.heap.size, 4, none⟩) (.inl (by simp)) _) | exact Hcl2.out _ ((((Hoa.out.plus HOwA.out).into (by simp)).setCell (p := ⟨wr.heap.size, 4, none⟩) (.inl (by simp)) _).setCell (p := ⟨wr.heap.size, 3, none⟩) (.inl (by simp)) _) | exact Hcl2.out _ ((((Hoa.out.plus HOwB.out).into (by simp)).setCell (p := ⟨wr.heap.size, 4, none⟩) (.inl (by simp)) _).setCell (p := ⟨wr.heap.size, 3, none⟩) (.inl (by simp)) _))
            (first
              | (go_at_call 17
                 with_reducible refine (HA.out _ ?_).mono ?_
                 · assumption
                 rintro e wA ⟨vA, fA, rfl, hbA, hnA, hOA⟩
                 obtain ⟨aA, cA, rfl, -⟩ := hbA.slice
                 have HHA := Lib.hid (And.intro hbA (And.intro hnA hOA))
                 have hOwA : Only [] w3 wA := Only.plus (by assumption) hOA
                 have hallA := Hcl.out wA (Hoa.out.plus hOwA)
                 have hqxA := Hq.out.only hOwA (by simp)
                 have hqlA := hqxA.lt
                 have hfz3A := hqxA.notFrozen 3
                 have hfz4A := hqxA.notFrozen 4
                 have hcz3A := hqxA.cell 3
                 have hcz4A := hqxA.cell 4
                 have HqxA := Lib.hid hqxA
                 have HOwA := Lib.hid hOwA
                 clear hbA hnA hOA hqxA)
              | (go_at_call 17
                 with_reducible refine (HB.out _ ?_).mono ?_
                 · assumption
                 rintro e wB ⟨vB, fB, rfl, hbB, hnB, hOB⟩
                 obtain ⟨aB, cB, rfl, -⟩ := hbB.slice
                 have HHB := Lib.hid (And.intro hbB (And.intro hnB hOB))
                 have hOwB : Only [] w3 wB := Only.plus (by assumption) hOB
                 have hallB := Hcl.out wB (Hoa.out.plus hOwB)
                 have hqxB := Hq.out.only hOwB (by simp)
                 have hqlB := hqxB.lt
                 have hfz3B := hqxB.notFrozen 3
                 have hfz4B := hqxB.notFrozen 4
                 have hcz3B := hqxB.cell 3
                 have hcz4B := hqxB.cell 4
                 have HqxB := Lib.hid hqxB
                 have HOwB := Lib.hid hOwB
                 clear hbB hnB hOB hqxB))
          all_goals
            go_wp2_with fail
            go_meet
            rw [Hnz.out 7 (by omega), if_pos (by omega)]
            try rw [if_pos rfl]
            first
              | exact made_fin (wd := w3.drew) (by simpa using hql) (Hoa.out.plus hdr) HqxB.out HHA.out.1 HHA.out.2.1 HHA.out.2.2 HHB.out.1 HHB.out.2.1 HHB.out.2.2
              | exact made_fin2 (wd := w3.drew) (by simpa using hql) (Hoa.out.plus hdr) HqxA.out HHB.out.1 HHB.out.2.1 HHB.out.2.2 HHA.out.1 HHA.out.2.1 HHA.out.2.2
        · subst e8
          have HA : Hid (Calls Tryz.prog 17 #[.slice aa A.len ca] w3 fun e w' => ∃ v fp, e = .returned v ∧ BlkAt w' v (blockR A) fp ∧ NewB w3 w' fp ∧ Only [] w3 w') :=
            Lib.hid (Ih.out A hcA.1 w3 _ (hA'.out.more (HO.out.plus Hoa.out)))
          have hall := Hcl.out w3 Hoa.out
          go_wp2_with fail
          refine HA.out.mono ?_
          rintro e wA ⟨vA, fA, rfl, hbA, hnA, hOA⟩
          obtain ⟨aA, cA, rfl, -⟩ := hbA.slice
          have HHA := Lib.hid (And.intro hbA (And.intro hnA hOA))
          have hqx := Hq.out.only hOA (by simp)
          have hql2 := hqx.lt
          have hfz3 := hqx.notFrozen 3
          have hcz3 := hqx.cell 3
          have Hqx := Lib.hid hqx
          clear hbA hnA hOA hqx
          go_wp2_with fail
          go_meet
          rw [Hnz.out 8 (by omega), if_pos (by omega), if_neg (by omega)]
          have hS : Only [wr.heap.size] wA (wA.setCell ⟨wr.heap.size, 3, none⟩ (.slice aA (blockR A).len cA)) := (Only.refl [wr.heap.size] wA).setCell (p := ⟨wr.heap.size, 3, none⟩) (.inl (by simp)) _
          obtain ⟨hbA, hnA, hOA⟩ := HHA.out
          have hne : ∀ k ∈ fA, k ∉ [wr.heap.size] := fun k hk hm => by have := (hnA.2 k hk).1; simp at hm; omega
          exact ⟨_, .slice none 0 0, fA, [], IsBlk.put Hqx.out 3 _, hbA.keep hS hne, BlkAt.nil _, by rw [List.append_nil]; exact (hnA.less (by omega)).more hS.size, (Hoa.out.plus hOA).then hS [] (by simp) (by simp)⟩
      case rest =>
        obtain ⟨va, vb, fa, fb, hqq, hba, hbb, hnn, hOx⟩ := hcut
        generalize wc = w5 at *
        clear c1 q0 hql hz3 Hq Hoa
        have q0 := hqq.cell 0
        have q1 := hqq.cell 1
        have q2 := hqq.cell 2
        have q3 := hqq.cell 3
        have q4 := hqq.cell 4
        have hql := hqq.lt
        have hq2 := IsBlk.made w5 (.cells #[.int .i64 kd, .int .i64 0, encStr (nameR kd n), va, vb] 85)
        have hOa := (Only.refl [] w5).alloc (.cells #[.int .i64 kd, .int .i64 0, encStr (nameR kd n), va, vb] 85)
        have Hq0 := Lib.hid (hq2.cell 0)
        have Hq1 := Lib.hid (hq2.cell 1)
        have Hq2 := Lib.hid (hq2.cell 2)
        have Hq3 := Lib.hid (hq2.cell 3)
        have Hq4 := Lib.hid (hq2.cell 4)
        have HOa := Lib.hid hOa
        have HOx := Lib.hid hOx
        have HA := Lib.hid hba
        have HB := Lib.hid hbb
        have HN := Lib.hid hnn
        have h03 := HO.out.size
        have hac : b.len ≤ 1000000 := by omega
        clear hqq hq2 hOa hOx hba hbb hnn
        unfold encStr at q2
        go_wp2_with (at_builtin; refine wpList_append_s rfl _ _ rfl w wr [] u3 b fp rfl Hg.out (HOx.out.plus HOa.out) (by simp) h03 w5.heap.size 1 ⟨kd, 0, nameR kd n, if 7 ≤ kd then blockR A else .nil, if kd = 7 then blockR B else .nil⟩ va vb fa fb rfl Hq0.out Hq1.out Hq2.out Hq3.out Hq4.out (HA.out.more HOa.out) (HB.out.more HOa.out) (HN.out.more HOa.out.size) hac ?_; intro v' w6 h5 hg5)
        rw [← hag]
        go_roundg rr.len
        case measure => simp only [RawM.len] at hgk; omega
        case rel =>
          refine ⟨j + 1, rr, xr, _, _, by go_num, by simp only [RawM.len] at hjl; omega, Nat.le_refl _, by rw [Blk.len_app]; simp only [StmM.one, Blk.len]; omega, hcA.2.2, HE.out, fun h => ⟨g, o, hag, hg, fun i u hu => ?_⟩, hX2, h5, ?_⟩
          · have := hrx2.out i u hu
            rw [show o + (j + 1) * 4 + i = o + j * 4 + (i + 4) by omega]
            exact this
          · refine (HO.out.plus (HOx.out.plus HOa.out)).then hg5 [] (by simp) (fun g' hg' => .inr ?_)
            obtain ⟨xs, o1, -⟩ := Hg.out
            exact (World.ownsRow.lt o1 g' (mem_ownL.1 hg')).1

theorem blockR_any : ∀ (N : Nat) (r : RawM), r.cnt ≤ N → N ≤ 100000 → ∀ (w : World) (v : Value), RawAt w v r → Calls Tryz.prog 17 #[v] w (MadeB w (blockR r))
  | 0, r, hN, h2, w, v, h => blockR_walk 0 (fun r h => absurd h (by omega)) r hN h2 w v h
  | N + 1, r, hN, h2, w, v, h => blockR_walk (N + 1) (fun r h => blockR_any N r (by omega) (by omega)) r hN h2 w v h

end Go.Proofs.YtildkedplmjdaaaGreatDoor
