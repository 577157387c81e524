/-
  The document's own log (package deadboltref3): Open, by a contract.
-/
import Derived.Test.YtijhllgogmmgfaaWalW
import Derived.BigRegion
namespace Go.Proofs.Ytijhllgogmmgfaa
set_option maxRecDepth 100000
set_option linter.unusedVariables false
open Go.RowKit

/-- The block of the document's own log. -/
def rlcells (q : Nat) (L : LS) : Array Value := #[.pointer (some ⟨q, 0, none⟩), .int .i64 L.top, .int .i64 L.gen, .int .i64 L.half, .int .i64 L.next, .int .i64 L.seq]
def RLogAt (w : World) (lp q : Nat) (L : LS) : Prop := IsBlk w lp (.cells (rlcells q L) 77)
section
variable {w w' : World} {lp q : Nat} {L : LS}
theorem RLogAt.c0 (h : RLogAt w lp q L) : w.cell? ⟨lp, 0, none⟩ = some (.pointer (some ⟨q, 0, none⟩)) := IsBlk.cell h 0
theorem RLogAt.c1 (h : RLogAt w lp q L) : w.cell? ⟨lp, 1, none⟩ = some (.int .i64 L.top) := IsBlk.cell h 1
theorem RLogAt.c2 (h : RLogAt w lp q L) : w.cell? ⟨lp, 2, none⟩ = some (.int .i64 L.gen) := IsBlk.cell h 2
theorem RLogAt.c3 (h : RLogAt w lp q L) : w.cell? ⟨lp, 3, none⟩ = some (.int .i64 L.half) := IsBlk.cell h 3
theorem RLogAt.c4 (h : RLogAt w lp q L) : w.cell? ⟨lp, 4, none⟩ = some (.int .i64 L.next) := IsBlk.cell h 4
theorem RLogAt.c5 (h : RLogAt w lp q L) : w.cell? ⟨lp, 5, none⟩ = some (.int .i64 L.seq) := IsBlk.cell h 5
theorem RLogAt.fz (h : RLogAt w lp q L) (i : Nat) : w.frozen? ⟨lp, i, none⟩ = false := IsBlk.notFrozen h i
theorem RLogAt.keep {S : List Nat} (h : RLogAt w lp q L) (ho : Only S w w') (hn : lp ∉ S) : RLogAt w' lp q L := IsBlk.only h ho hn
theorem RLogAt.more (h : RLogAt w lp q L) (ho : Only [] w w') : RLogAt w' lp q L := h.keep ho (by simp)
theorem RLogAt.put1 (h : RLogAt w lp q L) (x : Int) : RLogAt (w.setCell ⟨lp, 1, none⟩ (.int .i64 x)) lp q { L with top := x } := IsBlk.put h 1 _
theorem RLogAt.put2 (h : RLogAt w lp q L) (x : Int) : RLogAt (w.setCell ⟨lp, 2, none⟩ (.int .i64 x)) lp q { L with gen := x } := IsBlk.put h 2 _
theorem RLogAt.put3 (h : RLogAt w lp q L) (x : Nat) : RLogAt (w.setCell ⟨lp, 3, none⟩ (.int .i64 x)) lp q { L with half := x } := IsBlk.put h 3 _
theorem RLogAt.put4 (h : RLogAt w lp q L) (x : Nat) : RLogAt (w.setCell ⟨lp, 4, none⟩ (.int .i64 x)) lp q { L with next := x } := IsBlk.put h 4 _
theorem RLogAt.put5 (h : RLogAt w lp q L) (x : Int) : RLogAt (w.setCell ⟨lp, 5, none⟩ (.int .i64 x)) lp q { L with seq := x } := IsBlk.put h 5 _
end

/-- What Open answers. -/
def ROpenTo (w : World) (q : Nat) (S : Secs) (size : Nat) (e : Ending) (w' : World) : Prop :=
  ∃ lp a cap, e = .returned (.tuple #[.pointer (some ⟨lp, 0, none⟩), .slice a (foundM S size).1.length cap, .int .i64 0]) ∧ RLogAt w' lp q (openL S size) ∧ BytesAt w' a (foundM S size).1.length (foundM S size).1 ∧ w.heap.size ≤ lp ∧ Only [] w w'

theorem secP_g (b : List UInt8) : (secP b).g = ((parseB b).getD noPart).g := rfl
theorem top_step (S : Secs) (j : Nat) (h0 : 0 ≤ topM 0 (halfP S 0 j)) : topM 0 (halfP S 0 (j + 1)) = if (parseB (S j)).isSome = true ∧ topM 0 (halfP S 0 j) < (secP (S j)).g then (secP (S j)).g else topM 0 (halfP S 0 j) := by
  rw [halfP_succ, topM_snoc, Nat.zero_add]
  cases hp : parseB (S j) with
  | none => rw [secP_none hp]; simp [noPart]; omega
  | some p => rw [secP_some hp]; simp; split <;> omega

theorem begin_rrec (S : Secs) (f n : Nat) (hn : 0 < n) : beginM (halfP S f n) = if (rrecM S f n 0 0).isSome = true then ((parseB (S f)).getD noPart).g else 0 := by
  obtain ⟨m, rfl⟩ : ∃ m, n = m + 1 := ⟨n - 1, by omega⟩
  have e : halfP S f (m + 1) = secP (S f) :: ((List.range m).map Nat.succ).map (fun i => secP (S (f + i))) := by
    unfold halfP; rw [List.range_succ_eq_map, List.map_cons]; simp
  unfold rrecM
  rw [e]
  simp only [beginM, if_neg (show ¬ (0 : Int) < 0 by omega)]
  rfl
theorem halfP_add (S : Secs) (a m n : Nat) : halfP S a (m + n) = halfP S a m ++ halfP S (a + m) n := by
  induction n with
  | zero => simp [halfP]
  | succ n ih => rw [← Nat.add_assoc, halfP_succ, ih, halfP_succ, List.append_assoc, Nat.add_assoc]
theorem top_both (S : Secs) (n : Nat) : topM 0 (halfP S 0 (2 * n)) = topM (topM 0 (halfP S 0 n)) (halfP S n n) := by
  rw [show 2 * n = n + n by omega, halfP_add, Nat.zero_add]; simp [topM, List.foldl_append]

theorem rpart_at (w : World) (B : Nat) (R : RefP) (D : RS) (x : Nat) (xi : Int) (hxi : xi = (x : Int)) (h : RefAt w B R D) (hd : D.dead = false) (hx : x < D.n) :
    Calls Try.prog 35 #[.pointer (some ⟨R.q, 0, none⟩), .int .i64 xi] w (RPartTo w (parseB (D.now x))) := by
  subst hxi; exact rpart_any w B R D x h hd hx
theorem rrecord_at (w : World) (B : Nat) (R : RefP) (D : RS) (f l : Nat) (fi ti : Int) (gen rec : Int) (hfi : fi = (f : Int)) (hto : ti = ((f + l : Nat) : Int)) (h : RefAt w B R D) (hd : D.dead = false) (hx : f + l ≤ D.n) :
    Calls Try.prog 36 #[.pointer (some ⟨R.q, 0, none⟩), .int .i64 fi, .int .i64 ti, .int .i64 gen, .int .i64 rec] w (RRecTo w (rrecM D.now f l gen rec)) := by
  subst hfi hto; exact rrecord_any w B R D f l gen rec h hd hx
theorem RRecTo.shape3 {w w' : World} {x : Option (List UInt8 × Nat)} {e : Ending} (h : RRecTo w x e w') : ∃ s t, e = .returned (.tuple #[s, t, .bool x.isSome]) ∧ Only [] w w' := by
  cases x with
  | none => obtain ⟨k, a, l, c, h1, h2⟩ := h; exact ⟨_, _, h1, h2⟩
  | some y => obtain ⟨b, k⟩ := y; obtain ⟨a, c, h1, _, _, h2⟩ := h; exact ⟨_, _, h1, h2⟩

theorem RRecTo.undrew {w w' : World} {x : Option (List UInt8 × Nat)} {e : Ending} (h : RRecTo w.drew x e w') : RRecTo w x e w' := by
  have hd : Only [] w w.drew := (Only.refl [] w).drew
  cases x with
  | none => obtain ⟨k, a, l, c, h1, h2⟩ := h; exact ⟨k, a, l, c, h1, hd.plus h2⟩
  | some y => obtain ⟨b, k⟩ := y; obtain ⟨a, c, h1, h2, h3, h4⟩ := h; exact ⟨a, c, h1, h2, h3, hd.plus h4⟩
theorem RLogAt.nat4 {w : World} {lp q : Nat} {L : LS} (h : RLogAt w lp q L) : cellNat w ⟨lp, 4, none⟩ = L.next := by unfold cellNat; rw [h.c4]; rfl
theorem halfP_drop (S : Secs) (a n k : Nat) (h : k ≤ n) : (halfP S a n).drop k = halfP S (a + k) (n - k) := by
  have e := halfP_add S a k (n - k)
  rw [Nat.add_sub_cancel' h] at e
  rw [e, List.drop_append_of_le_length (by rw [length_halfP]; exact Nat.le_refl _), List.drop_eq_nil_of_le (by rw [length_halfP]; exact Nat.le_refl _), List.nil_append]
theorem rrec_drop (S : Secs) (a n k : Nat) (gen seq : Int) (h : k ≤ n) (hg : 0 < gen) : rrecM S (a + k) (n - k) gen seq = recM ((halfP S a n).drop k) gen seq := by
  unfold rrecM; rw [if_pos hg, halfP_drop S a n k h]

set_option maxHeartbeats 4000000 in
theorem ropen_any (w : World) (B : Nat) (R : RefP) (D : RS) (size : Nat) (h : RefAt w B R D) (hd : D.dead = false) (hn : D.n = 2 * size) :
    Calls Try.prog 9 #[.pointer (some ⟨R.q, 0, none⟩)] w (ROpenTo w R.q D.now size) := by
  have hsm := h.small
  have hpos := h.pos
  have H := Lib.hid h
  clear h
  go_enter Try.func9, Try.ntmps9
  go_wp2_with fail
  refine (rread_cap _ B R D 0 H.out hd hpos).mono ?_
  rintro e w1 ⟨g, c, rfl, -, -, hO1⟩
  have HO1 := Lib.hid hO1
  clear hO1
  go_wp2_with fail
  have hA := HO1.out.alloc (.cells #[.pointer (some ⟨R.q, 0, none⟩), .int .i64 0, .int .i64 0, .int .i64 0, .int .i64 0, .int .i64 0] 77)
  refine (rsize_any _ B R D (H.out.more hA)).mono ?_
  rintro e w' ⟨rfl, rfl⟩
  have hL0 : RLogAt (w1.alloc (.cells #[.pointer (some ⟨R.q, 0, none⟩), .int .i64 0, .int .i64 0, .int .i64 0, .int .i64 0, .int .i64 0] 77)) w1.heap.size R.q ⟨size, 0, 0, 0, 0, 0⟩ := IsBlk.made _ _
  have HL0 := Lib.hid hL0
  have HA := Lib.hid hA
  have hsz1 := HO1.out.size
  clear hL0 hA HO1
  rw [hn]
  go_wp2_with fail
  generalize hlp : w1.heap.size = lp at *
  go_loopw [9] (fun i wr => ∃ j : Nat, j ≤ 2 * size ∧ i = .int .i64 j ∧ RLogAt wr lp R.q ⟨size, topM 0 (halfP D.now 0 j), 0, 0, 0, 0⟩ ∧ Only [] w wr) (fun i _ => 2 * size - (intOf i).toNat)
  case atStart => exact ⟨0, Nat.zero_le _, rfl, by simpa [halfP, topM] using HL0.out, HA.out⟩
  case round =>
    obtain ⟨j, hj, rfl, hL, hO⟩ := hrel
    have HL := Lib.hid hL
    have HO := Lib.hid hO
    have hszr := hO.size
    clear hL hO HL0 HA
    go_wp2_with fail
    refine (rsize_any _ B R D (H.out.more HO.out)).mono ?_
    rintro e w' ⟨rfl, rfl⟩
    rw [hn]
    by_cases hlt : j < 2 * size
    · have hlti : (j : Int) < 2 * (size : Int) := by omega
      go_wp2_with fail
      refine (rpart_any _ B R D j (H.out.more HO.out) hd (by omega)).mono ?_
      rintro e w3 ⟨a3, c3, rfl, -, -, hO3⟩
      have hsp := secP_g (D.now j)
      have hT := Lib.hid (top_step D.now j (topM_bounds (halfP_sane D.now 0 j) (by omega) (by omega)).1)
      have hT0 := (topM_bounds (halfP_sane D.now 0 j) (show (0 : Int) ≤ 0 by omega) (by omega))
      have hA3 := hO3.alloc (.cells #[.int .i64 ((parseB (D.now j)).getD noPart).g, .int .i64 ((parseB (D.now j)).getD noPart).r, .int .i64 ((parseB (D.now j)).getD noPart).n, .int .i64 ((parseB (D.now j)).getD noPart).o, .slice a3 ((parseB (D.now j)).getD noPart).d.length c3] 63)
      have hbx := IsBlk.made w3 (.cells #[.int .i64 ((parseB (D.now j)).getD noPart).g, .int .i64 ((parseB (D.now j)).getD noPart).r, .int .i64 ((parseB (D.now j)).getD noPart).n, .int .i64 ((parseB (D.now j)).getD noPart).o, .slice a3 ((parseB (D.now j)).getD noPart).d.length c3] 63)
      rw [hsp] at hT
      generalize (parseB (D.now j)).getD noPart = p at *
      obtain ⟨pg, pr, pn, po, pdd⟩ := p
      simp only at hbx hA3 hT
      generalize (parseB (D.now j)).isSome = is at *
      clear hsp hO3
      go_wp2_with fail
      have HL4 := Lib.hid (HL.out.more hA3)
      have HO4 := Lib.hid (HO.out.plus hA3)
      generalize w3.alloc (.cells #[.int .i64 pg, .int .i64 pr, .int .i64 pn, .int .i64 po, .slice a3 pdd.length c3] 63) = w4 at *
      generalize w3.heap.size = q3 at *
      generalize topM 0 (halfP D.now 0 j) = T at *
      have d1 := HL4.out.c1
      simp only at d1
      have b0 : w4.cell? ⟨q3, 0, none⟩ = some (.int .i64 pg) := hbx.cell 0
      have z1 := HL4.out.fz 1
      clear hbx hA3 HL HO
      cases is with
      | false =>
        go_quiet (fail)
        go_wp2_with fail
        go_roundw
        case rel => exact ⟨j + 1, by omega, by go_num, by rw [hT.out, if_neg (by simp)]; exact HL4.out.more ((Only.refl [] w4).drewN _), HO4.out.drewN _⟩
        case measure => simp [intOf]; omega
      | true =>
        by_cases hgt : T < pg
        · go_quiet (fail)
          have d1' : (w4.drewN 10).cell? ⟨lp, 1, none⟩ = some (.int .i64 T) := ((HL4.out.more ((Only.refl [] w4).drewN 10)).c1)
          go_wp2
          go_roundw
          case rel => exact ⟨j + 1, by omega, by go_num, by rw [hT.out, if_pos ⟨rfl, hgt⟩]; exact (HL4.out.more ((Only.refl [] w4).drewN _)).put1 pg, (HO4.out.drewN _).then (only_put _ _) [] (by simp) (by simp; omega)⟩
          case measure => simp [intOf]; omega
        · go_quiet (fail)
          go_wp2_with fail
          go_roundw
          case rel => exact ⟨j + 1, by omega, by go_num, by rw [hT.out, if_neg (by simp; omega)]; exact HL4.out.more ((Only.refl [] w4).drewN _), HO4.out.drewN _⟩
          case measure => simp [intOf]; omega
    · have hge : ¬ (j : Int) < 2 * (size : Int) := by omega
      obtain rfl : j = 2 * size := by omega
      have htop := Lib.hid (top_both D.now size)
      generalize topM 0 (halfP D.now 0 (2 * size)) = tp at *
      go_wp2_with fail
      go_loopw [12] (fun i wr => (i = .int .i64 0 ∧ RLogAt wr lp R.q ⟨size, tp, 0, 0, 0, 0⟩ ∨ i = .int .i64 1 ∧ RLogAt wr lp R.q ⟨size, tp, beginM (halfP D.now 0 size), 0, 0, 0⟩ ∨ i = .int .i64 2 ∧ RLogAt wr lp R.q ⟨size, tp, (chooseM (halfP D.now 0 size) (halfP D.now size size)).1, (chooseM (halfP D.now 0 size) (halfP D.now size size)).2, 0, 0⟩) ∧ Only [] w wr) (fun i _ => 2 - (intOf i).toNat)
      case atStart => exact ⟨.inl ⟨rfl, HL.out⟩, HO.out⟩
      case round =>
        obtain ⟨hi, hO⟩ := hrel
        clear HL HO
        have HO := Lib.hid hO
        clear hO
        rcases hi with ⟨rfl, hL⟩ | ⟨rfl, hL⟩ | ⟨rfl, hL⟩
        · have HL := Lib.hid hL
          clear hL
          have hnn := (beginM_nonneg (halfP_sane D.now 0 size)).1
          go_wp2_with fail
          refine (rpart_at _ B R D 0 _ (by simp) (H.out.more HO.out) hd (by omega)).mono ?_
          rintro e w3 ⟨a3, c3, rfl, -, -, hO3⟩
          have hbr := Lib.hid (begin_rrec D.now 0 size (by omega))
          have hsn := secP_sane (D.now 0)
          rw [secP_g] at hsn
          have hA3 := hO3.alloc (.cells #[.int .i64 ((parseB (D.now 0)).getD noPart).g, .int .i64 ((parseB (D.now 0)).getD noPart).r, .int .i64 ((parseB (D.now 0)).getD noPart).n, .int .i64 ((parseB (D.now 0)).getD noPart).o, .slice a3 ((parseB (D.now 0)).getD noPart).d.length c3] 63)
          have hbx := IsBlk.made w3 (.cells #[.int .i64 ((parseB (D.now 0)).getD noPart).g, .int .i64 ((parseB (D.now 0)).getD noPart).r, .int .i64 ((parseB (D.now 0)).getD noPart).n, .int .i64 ((parseB (D.now 0)).getD noPart).o, .slice a3 ((parseB (D.now 0)).getD noPart).d.length c3] 63)
          have hpg := hsn.2.2
          clear hsn
          generalize (parseB (D.now 0)).getD noPart = p at *
          obtain ⟨pg, pr, pn, po, pdd⟩ := p
          generalize (parseB (D.now 0)).isSome = is at *
          simp only at hbx hA3 hbr hpg
          have HL3 := Lib.hid (HL.out.more hA3)
          have HO3 := Lib.hid (HO.out.plus hA3)
          have Hbx := Lib.hid hbx
          clear hO3 HL HO hbx
          go_wp2_with fail
          generalize w3.alloc (.cells #[.int .i64 pg, .int .i64 pr, .int .i64 pn, .int .i64 po, .slice a3 pdd.length c3] 63) = w4 at *
          generalize w3.heap.size = q3 at *
          refine (rrecord_at _ B R D 0 size _ _ 0 0 (by simp) (by simp) (H.out.more HO3.out) hd (by omega)).mono ?_
          intro e w5 hrec
          obtain ⟨s5, t5, rfl, hO5⟩ := hrec.shape3
          clear hrec
          have HL5 := Lib.hid (HL3.out.more hO5)
          have HO5 := Lib.hid (HO3.out.plus hO5)
          have b0 : w5.cell? ⟨q3, 0, none⟩ = some (.int .i64 pg) := (Hbx.out.only hO5 (by simp)).cell 0
          have d2 := HL5.out.c2
          have d3 := HL5.out.c3
          have z2 := HL5.out.fz 2
          have z3 := HL5.out.fz 3
          simp only at d2 d3
          clear hO5 HL3 HO3 hA3 Hbx
          generalize (rrecM D.now 0 size 0 0).isSome = ir at *
          cases ir with
          | false =>
            have hbe := Lib.hid (hbr.out.trans (if_neg (by simp)))
            go_wp2_with fail
            go_quiet (fail)
            go_wp2_with fail
            go_roundw
            case rel => exact ⟨.inr (.inl ⟨rfl, by rw [hbe.out]; exact HL5.out.more ((Only.refl [] w5).drewN _)⟩), HO5.out.drewN _⟩
            case measure => simp [intOf]
          | true =>
            have hbe := Lib.hid (hbr.out.trans (if_pos rfl))
            by_cases hgt : (0 : Int) < pg
            · go_wp2_with fail
              go_quiet (fail)
              have b0' : (w5.drewN 10).cell? ⟨q3, 0, none⟩ = some (.int .i64 pg) := b0
              go_wp2
              go_roundw
              case rel => exact ⟨.inr (.inl ⟨rfl, by rw [hbe.out]; exact ((HL5.out.more ((Only.refl [] w5).drewN _)).put2 pg).put3 0⟩), (((HO5.out.drewN _).then (only_put _ _) [] (by simp) (by simp; omega)).then (only_put _ _) [] (by simp) (by simp; omega))⟩
              case measure => simp [intOf]
            · go_wp2_with fail
              go_quiet (fail)
              go_wp2_with fail
              go_roundw
              case rel => exact ⟨.inr (.inl ⟨rfl, by rw [hbe.out, show pg = 0 by omega]; exact HL5.out.more ((Only.refl [] w5).drewN _)⟩), HO5.out.drewN _⟩
              case measure => simp [intOf]
        · have HL := Lib.hid hL
          clear hL
          have hnn := (beginM_nonneg (halfP_sane D.now 0 size)).1
          go_wp2_with fail
          refine (rpart_at _ B R D size _ (by simp) (H.out.more HO.out) hd (by omega)).mono ?_
          rintro e w3 ⟨a3, c3, rfl, -, -, hO3⟩
          have hbr := Lib.hid (begin_rrec D.now size size (by omega))
          have hsn := secP_sane (D.now size)
          rw [secP_g] at hsn
          have hA3 := hO3.alloc (.cells #[.int .i64 ((parseB (D.now size)).getD noPart).g, .int .i64 ((parseB (D.now size)).getD noPart).r, .int .i64 ((parseB (D.now size)).getD noPart).n, .int .i64 ((parseB (D.now size)).getD noPart).o, .slice a3 ((parseB (D.now size)).getD noPart).d.length c3] 63)
          have hbx := IsBlk.made w3 (.cells #[.int .i64 ((parseB (D.now size)).getD noPart).g, .int .i64 ((parseB (D.now size)).getD noPart).r, .int .i64 ((parseB (D.now size)).getD noPart).n, .int .i64 ((parseB (D.now size)).getD noPart).o, .slice a3 ((parseB (D.now size)).getD noPart).d.length c3] 63)
          have hpg := hsn.2.2
          clear hsn
          generalize (parseB (D.now size)).getD noPart = p at *
          obtain ⟨pg, pr, pn, po, pdd⟩ := p
          generalize (parseB (D.now size)).isSome = is at *
          simp only at hbx hA3 hbr hpg
          have HL3 := Lib.hid (HL.out.more hA3)
          have HO3 := Lib.hid (HO.out.plus hA3)
          have Hbx := Lib.hid hbx
          clear hO3 HL HO hbx
          go_wp2_with fail
          generalize w3.alloc (.cells #[.int .i64 pg, .int .i64 pr, .int .i64 pn, .int .i64 po, .slice a3 pdd.length c3] 63) = w4 at *
          generalize w3.heap.size = q3 at *
          refine (rrecord_at _ B R D size size _ _ 0 0 (by simp) (by simp; omega) (H.out.more HO3.out) hd (by omega)).mono ?_
          intro e w5 hrec
          obtain ⟨s5, t5, rfl, hO5⟩ := hrec.shape3
          clear hrec
          have HL5 := Lib.hid (HL3.out.more hO5)
          have HO5 := Lib.hid (HO3.out.plus hO5)
          have b0 : w5.cell? ⟨q3, 0, none⟩ = some (.int .i64 pg) := (Hbx.out.only hO5 (by simp)).cell 0
          have d2 := HL5.out.c2
          have d3 := HL5.out.c3
          have z2 := HL5.out.fz 2
          have z3 := HL5.out.fz 3
          simp only at d2 d3
          clear hO5 HL3 HO3 hA3 Hbx
          generalize (rrecM D.now size size 0 0).isSome = ir at *
          generalize hb0_ : beginM (halfP D.now 0 size) = b0_ at *
          have Hb0 := Lib.hid hb0_
          clear hb0_
          cases ir with
          | false =>
            have hbe : Hid (chooseM (halfP D.now 0 size) (halfP D.now size size) = (b0_, 0)) := Lib.hid (by have hq := hbr.out.trans (if_neg (by simp)); unfold chooseM; rw [Hb0.out, hq, if_neg (by omega)])
            go_wp2_with fail
            go_quiet (fail)
            go_wp2_with fail
            go_roundw
            case rel => exact ⟨.inr (.inr ⟨rfl, by rw [hbe.out]; exact HL5.out.more ((Only.refl [] w5).drewN _)⟩), HO5.out.drewN _⟩
            case measure => simp [intOf]
          | true =>
            by_cases hgt : b0_ < pg
            · have hbe : Hid (chooseM (halfP D.now 0 size) (halfP D.now size size) = (pg, 1)) := Lib.hid (by unfold chooseM; rw [Hb0.out, hbr.out, if_pos rfl, if_pos hgt])
              go_wp2_with fail
              go_quiet (fail)
              have b0' : (w5.drewN 10).cell? ⟨q3, 0, none⟩ = some (.int .i64 pg) := b0
              go_wp2
              go_roundw
              case rel => exact ⟨.inr (.inr ⟨rfl, by rw [hbe.out]; exact ((HL5.out.more ((Only.refl [] w5).drewN _)).put2 pg).put3 1⟩), (((HO5.out.drewN _).then (only_put _ _) [] (by simp) (by simp; omega)).then (only_put _ _) [] (by simp) (by simp; omega))⟩
              case measure => simp [intOf]
            · have hbe : Hid (chooseM (halfP D.now 0 size) (halfP D.now size size) = (b0_, 0)) := Lib.hid (by unfold chooseM; rw [Hb0.out, hbr.out, if_pos rfl, if_neg hgt])
              go_wp2_with fail
              go_quiet (fail)
              go_wp2_with fail
              go_roundw
              case rel => exact ⟨.inr (.inr ⟨rfl, by rw [hbe.out]; exact HL5.out.more ((Only.refl [] w5).drewN _)⟩), HO5.out.drewN _⟩
              case measure => simp [intOf]
        · have HL := Lib.hid hL
          clear hL
          have hcg : Hid (0 ≤ (chooseM (halfP D.now 0 size) (halfP D.now size size)).1 ∧ (chooseM (halfP D.now 0 size) (halfP D.now size size)).1 ≤ 4294967295 ∧ (chooseM (halfP D.now 0 size) (halfP D.now size size)).2 ≤ 1) := Lib.hid (by
            have h1 := beginM_nonneg (halfP_sane D.now 0 size)
            have h2 := beginM_nonneg (halfP_sane D.now size size)
            unfold chooseM
            split
            · exact ⟨h2.1, h2.2, by simp⟩
            · exact ⟨h1.1, h1.2, by simp⟩)
          have hopen : Hid (∀ nx sq, foundM D.now size = ((foundM D.now size).1, nx, sq) → openL D.now size = ⟨size, tp, (chooseM (halfP D.now 0 size) (halfP D.now size size)).1, (chooseM (halfP D.now 0 size) (halfP D.now size size)).2, nx, sq⟩) := Lib.hid (fun nx sq h => by
            unfold openL
            rw [h, htop.out])
          have hfound : Hid (foundM D.now size = if (chooseM (halfP D.now 0 size) (halfP D.now size size)).1 = 0 then ([], 0, 0) else followM (halfP D.now ((chooseM (halfP D.now 0 size) (halfP D.now size size)).2 * size) size) (chooseM (halfP D.now 0 size) (halfP D.now size size)).1 (size + 1) 0 0) := Lib.hid rfl
          generalize chooseM (halfP D.now 0 size) (halfP D.now size size) = ch at *
          obtain ⟨gen, half⟩ := ch
          simp only at hcg hopen hfound
          obtain ⟨hg0, hg1, hh1⟩ := hcg.out
          have d2 := HL.out.c2
          simp only at d2
          by_cases hgz : gen = 0
          · have hf := Lib.hid (hfound.out.trans (if_pos hgz))
            have hgzb : (gen == 0) = true := by simpa using hgz
            have Hgz := Lib.hid hgz
            clear hgz
            go_wp2
            (try simp only [Exit.inBlock, Exit.then])
            refine bodyPost_ret (results_tmp3' rfl _ _ _) rfl ?_
            unfold ROpenTo
            rw [hopen.out 0 0 (by rw [hf.out]), hf.out]
            exact ⟨lp, none, 0, rfl, HL.out, ⟨rfl, fun h => by simp at h⟩, by omega, HO.out⟩
          · have hf := Lib.hid (hfound.out.trans (if_neg hgz))
            have hgzb : (gen == 0) = false := by simpa using hgz
            have hgp : 0 < gen := by omega
            clear hgz hfound
            generalize hps : halfP D.now (half * size) size = ps at *
            have Hps := Lib.hid hps
            clear hps
            have hbase : Hid (lp < wr.heap.size) := Lib.hid (IsBlk.lt HL.out)
            go_wp2_with fail
            obtain ⟨base, hbs⟩ : ∃ b, b = wr.heap.size := ⟨_, rfl⟩
            have hlb : lp < base := by rw [hbs]; exact hbase.out
            have hwb : w.heap.size ≤ base := by rw [hbs]; exact HO.out.size
            have Hbs := Lib.hid (Nat.le_of_eq hbs)
            clear hbs hbase d2
            go_loopw [18] (fun v W => ∃ (rs : List (List UInt8)) (f next : Nat) (seq : Int), OwnBs W base [lp] v rs ∧ RLogAt W lp R.q ⟨size, tp, gen, half, next, seq⟩ ∧ Only [] w W ∧ next ≤ size ∧ size < next + f ∧ foundM D.now size = (rs ++ (followM ps gen f next seq).1, (followM ps gen f next seq).2) ∧ rs.length ≤ next ∧ 0 ≤ seq ∧ seq ≤ next ∧ base ≤ W.heap.size) (fun _ W => size - cellNat W ⟨lp, 4, none⟩)
            case atStart => exact ⟨[], size + 1, 0, 0, OwnBs.nil _ _ _, HL.out, HO.out, Nat.zero_le _, by omega, by rw [hf.out]; simp, by simp, by omega, by omega, Hbs.out⟩
            case round =>
              obtain ⟨rs, f, next, seq, hv, hL, hO, hnx, hff, hR, hrl, hq0, hq1, hbz⟩ := hrel
              clear HL HO
              have Hv := Lib.hid hv
              have HL := Lib.hid hL
              have HO := Lib.hid hO
              have HR := Lib.hid hR
              clear hv hL hO hR hf
              obtain ⟨f, rfl⟩ : ∃ k, f = k + 1 := ⟨f - 1, by omega⟩
              have hfm : Hid (followM ps gen (f + 1) next seq = match recM (ps.drop next) gen seq with
                | none => ([], next, seq)
                | some (b, of) => (b :: (followM ps gen f (next + of) (seq + 1)).1, (followM ps gen f (next + of) (seq + 1)).2)) := Lib.hid rfl
              have d2 := HL.out.c2
              have d3 := HL.out.c3
              have d4 := HL.out.c4
              have d5 := HL.out.c5
              simp only at d2 d3 d4 d5
              have em : (half : Int) * (size : Int) = ((half * size : Nat) : Int) := by simp
              have hat2 : half * size + size ≤ 2 * size := by
                have : half = 0 ∨ half = 1 := by omega
                rcases this with rfl | rfl
                · omega
                · omega
              have em2 : ((half : Int) + 1) * (size : Int) = ((half * size + size : Nat) : Int) := by rw [Int.add_mul]; simp
              have Hrr : Hid (rrecM D.now (half * size + next) (size - next) gen seq = recM (ps.drop next) gen seq) := Lib.hid (by rw [← Hps.out]; exact rrec_drop D.now (half * size) size next gen seq hnx hgp)
              generalize half * size = at_ at *
              obtain ⟨x, hx⟩ : ∃ x, x = at_ + next := ⟨_, rfl⟩
              obtain ⟨y, hy⟩ : ∃ y, y = at_ + size := ⟨_, rfl⟩
              rw [← hy] at em2
              rw [← hx] at Hrr
              have hw1 : IntKind.i64.wrap (at_ : Int) = (at_ : Int) := wrap_nat at_ (by omega)
              have hw2 : IntKind.i64.wrap ((at_ : Int) + (next : Int)) = (x : Int) := by rw [hx]; exact wrap_nat (at_ + next) (by omega)
              have hw3 : IntKind.i64.wrap ((half : Int) + 1) = (half : Int) + 1 := by have := wrap_nat (half + 1) (by omega); simpa using this
              have hw4 : IntKind.i64.wrap (y : Int) = (y : Int) := wrap_nat y (by omega)
              have Hto : Hid ((y : Int) = ((x + (size - next) : Nat) : Int)) := Lib.hid (by omega)
              have hxn : x + (size - next) ≤ D.n := by omega
              clear hx hy hat2
              have hszr := HO.out.size
              go_upto_region 22 with fail
              go_cut [19, 20, 21] (fun s19 s20 s21 wx => ∃ e, RRecTo wr (recM (ps.drop next) gen seq) e wx ∧ e = .returned (.tuple #[s19, s20, s21]))
              case first =>
                go_region_held3 (fun W => W.cell? ⟨lp, 3, none⟩ = some (.int .i64 half) ∧ W.cell? ⟨lp, 4, none⟩ = some (.int .i64 next) ∧ W.cell? ⟨lp, 2, none⟩ = some (.int .i64 gen) ∧ W.cell? ⟨lp, 5, none⟩ = some (.int .i64 seq)) (first | exact ⟨d3, d4, d2, d5⟩ | assumption)
                  (first
                    | (go_at_call 36
                       refine (rrecord_at _ B R D x (size - next) _ _ gen seq rfl Hto.out (H.out.more (HO.out.plus (Only.refl [] wr).drew)) hd hxn).mono ?_
                       rw [Hrr.out]
                       intro e w1 hrec
                       obtain ⟨s5, t5, rfl, hO1⟩ := hrec.shape3
                       have hO1' := ((Only.refl [] wr).drew).plus hO1
                       have hS1 : w1.cell? ⟨lp, 3, none⟩ = some (.int .i64 half) ∧ w1.cell? ⟨lp, 4, none⟩ = some (.int .i64 next) ∧ w1.cell? ⟨lp, 2, none⟩ = some (.int .i64 gen) ∧ w1.cell? ⟨lp, 5, none⟩ = some (.int .i64 seq) := ⟨(HL.out.more hO1').c3, (HL.out.more hO1').c4, (HL.out.more hO1').c2, (HL.out.more hO1').c5⟩))
                all_goals
                  go_wp2_with fail
                  go_meet
                  exact ⟨_, hrec.undrew, rfl⟩
              case rest =>
                obtain ⟨e, hrec, he⟩ := hcut
                clear Hto Hrr hw1 hw2 hw3 hw4 em em2 hxn d2 d3 d4 d5
                cases hx : recM (ps.drop next) gen seq with
                | none =>
                  rw [hx] at hrec
                  obtain ⟨k1, a1, l1, c1, h1, hO1⟩ := hrec
                  rw [h1] at he
                  injection he with he; injection he with he; injection he with he; injection he with h5 he; injection he with h6 he; injection he with h7 he
                  subst h5; subst h6; subst h7
                  have hR := HR.out
                  rw [hfm.out, hx] at hR
                  simp only [List.append_nil] at hR
                  have HR' := Lib.hid hR
                  obtain ⟨va, vc, rfl, hB, -⟩ := (Hv.out.more hO1).shape
                  have HB := Lib.hid hB
                  have HO1 := Lib.hid hO1
                  clear HR hR h1 hx hB hO1 hfm
                  go_wp2
                  (try simp only [Exit.inBlock, Exit.then])
                  refine bodyPost_ret (results_tmp3' rfl _ _ _) rfl ?_
                  unfold ROpenTo
                  rw [hopen.out next seq (by rw [HR'.out]), HR'.out]
                  exact ⟨lp, va, vc, rfl, HL.out.more HO1.out, HB.out, by omega, HO.out.plus HO1.out⟩
                | some y =>
                  obtain ⟨b, k⟩ := y
                  rw [hx] at hrec
                  obtain ⟨da, dc, h1, hsb, hda, hO1⟩ := hrec
                  obtain ⟨hk0, hk1⟩ := recM_pos hx
                  have hpl : ps.length = size := by rw [← Hps.out]; exact length_halfP _ _ _
                  rw [List.length_drop, hpl] at hk1
                  rw [h1] at he
                  injection he with he; injection he with he; injection he with he; injection he with h5 he; injection he with h6 he; injection he with h7 he
                  subst h5; subst h6; subst h7
                  have hR := HR.out
                  rw [hfm.out, hx] at hR
                  simp only at hR
                  have HR' := Lib.hid hR
                  have hv1 := Hv.out.more hO1
                  obtain ⟨xs0, hv1o, -⟩ := Hv.out
                  have Hn4 : Hid (cellNat wr ⟨lp, 4, none⟩ = next) := Lib.hid HL.out.nat4
                  have hL1 := HL.out.more hO1
                  have hO1' := HO.out.plus hO1
                  have hsz1 := hO1.size
                  obtain ⟨xs, hown, hxs⟩ := hv1
                  have hA : Only [] wc (wc.alloc (.cells #[.slice da b.length dc] 23)) := (Only.refl [] wc).alloc _
                  have Hown := Lib.hid (hown.alloc (.cells #[.slice da b.length dc] 23))
                  have Hxs : Hid (∀ (i : Nat) (r : List UInt8), rs[i]? = some r → ∃ da' dc', xs[i]? = some (Value.slice da' r.length dc') ∧ Src (wc.alloc (.cells #[.slice da b.length dc] 23)) da' r.length r ∧ (0 < r.length → ∀ b o, da' = some ⟨b, o, none⟩ → b ∉ [lp] ∧ u18.ownBlock ≠ some b)) :=
                    Lib.hid (fun i r hi => by obtain ⟨d1, c1, h1, h2, h3⟩ := hxs i r hi; exact ⟨d1, c1, h1, h2.more hA, h3⟩)
                  have Hsb := Lib.hid (hsb.more hA)
                  have Hdb : Hid (0 < b.length → ∀ b' o, da = some ⟨b', o, none⟩ → b' ∉ [lp] ∧ u18.ownBlock ≠ some b') := Lib.hid (fun _ b' o e => by
                    have h1 := hda b' o e
                    refine ⟨by simp; omega, fun e2 => ?_⟩
                    have h2 := owns_lt hv1o e2
                    omega)
                  have hOA : Hid (Only [] w (wc.alloc (.cells #[.slice da b.length dc] 23))) := Lib.hid (hO1'.plus hA)
                  have HLA := Lib.hid (hL1.more hA)
                  have hcel : (wc.alloc (.cells #[.slice da b.length dc] 23)).cell? ⟨wc.heap.size, 0, none⟩ = some (.slice da b.length dc) := IsBlk.cell (IsBlk.made wc _) 0
                  have hszA : base ≤ (wc.alloc (.cells #[.slice da b.length dc] 23)).heap.size := by have := hA.size; omega
                  clear hv1o HR hR h1 hx Hv HL hown hxs hsb hda hL1 hO1' hO1 hfm
                  go_wp2_with (at_builtin; refine wpList_app1 32 23 (.slice none 0 0) 24 Try.underlying32 info34 rfl (by omega) rfl _ _ rfl base u18 rs.length xs rfl Hown.out (by omega) _ _ _ rfl hcel rfl hszA ?_; intro g2 c2 w2 ho2 hO2 hat2)
                  have hL2 := HLA.out.keep hO2 (fun hm => by have := (owns_lt Hown.out (mem_ownL.1 hm)).1; omega)
                  have hB2 := OwnBs.app (T := [lp]) Hown.out Hxs.out Hsb.out Hdb.out ho2 hO2 hat2
                  have hO4 : Only [] w w2 := hOA.out.then hO2 [] (by simp) (fun i hi => .inr (by have := (owns_lt Hown.out (mem_ownL.1 hi)).1; omega))
                  have hsz2 := hO2.size
                  have f4 := hL2.c4
                  have f5 := hL2.c5
                  have y4 := hL2.fz 4
                  have y5 := hL2.fz 5
                  simp only at f4 f5
                  have HL4 := Lib.hid hL2
                  have HB4 := Lib.hid hB2
                  have HO4 := Lib.hid hO4
                  have hszb : base ≤ w2.heap.size := by omega
                  clear hL2 hB2 hO4 ho2 hO2 hat2 hsz2 HLA hOA hcel
                  go_region
                  go_wp2
                  have hO7 : Only [lp] w2 ((w2.setCell ⟨lp, 4, none⟩ (.int .i64 ((next + k : Nat) : Int))).setCell ⟨lp, 5, none⟩ (.int .i64 (seq + 1))).drew := (((Only.refl [lp] w2).setCell (by simp) _).setCell (by simp) _).drew
                  have hL7 := ((HL4.out.put4 (next + k)).put5 (seq + 1)).more (Only.refl [] _).drew
                  have ek : ((next : Int) + (k : Int)) = ((next + k : Nat) : Int) := by omega
                  rw [ek]
                  go_roundw
                  case rel => exact ⟨rs ++ [b], f, next + k, seq + 1, by have := HB4.out.keep hO7 (by simp; exact hlb); simpa using this, hL7, HO4.out.then hO7 [] (by simp) (by simp; omega), by omega, by omega, by rw [HR'.out]; simp, by simp; omega, by omega, by omega, Nat.le_trans hszb hO7.size⟩
                  case measure =>
                    show size - cellNat _ _ < size - cellNat wr _
                    rw [Hn4.out, hL7.nat4]
                    show size - (next + k) < _
                    omega

end Go.Proofs.Ytijhllgogmmgfaa
