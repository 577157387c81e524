/-
  The laws' helpers of package graph: within; the document's In, Same, All.
-/
import Derived.Test.YtgkddbpfjbgelaaGrN
import Derived.Test.YtgkddbpfjbgelaaLxG
namespace Go.Proofs.Ytgkddbpfjbgelaa
set_option maxRecDepth 100000
set_option linter.unusedVariables false
open Go.RowKit Go.Sort Go.Maps

set_option maxHeartbeats 400000 in
theorem within8_nat (w : World) (x : Int) (n : Nat) (hn0 : 0 < n) (hn : n < 1000000) :
    Calls Try.prog 11 #[.int .i64 x, .int .i64 n] w fun e w' => e = .returned (.int .i64 (x % n)) ∧ w = w' := by
  obtain ⟨h1, h2, h3, h4⟩ := tmod_bounds x n hn0
  have H3 := Lib.hid h3
  have H4 := Lib.hid h4
  clear h3 h4
  have hnz : ((n : Int) == 0) = false := by simp; omega
  by_cases hs : x.tmod n < 0
  · have e1 := H4.out hs
    rw [← e1]
    clear H3 H4 e1
    go_enter Try.func11, Try.ntmps11
    go_wp2
    go_ret
    exact ⟨rfl, rfl⟩
  · have e1 := H3.out (by omega)
    rw [← e1]
    clear H3 H4 e1
    go_enter Try.func11, Try.ntmps11
    go_wp2
    go_ret
    exact ⟨rfl, rfl⟩
theorem within8_to (w : World) (x n : Int) (hn0 : 0 < n) (hn : n < 1000000) :
    Calls Try.prog 11 #[.int .i64 x, .int .i64 n] w fun e w' => e = .returned (.int .i64 (inM x n.toNat)) ∧ w = w' := by
  obtain ⟨k, rfl⟩ := Int.eq_ofNat_of_zero_le (show 0 ≤ n by omega)
  refine (within8_nat w x k (by omega) (by omega)).mono ?_
  rintro e w' ⟨rfl, rfl⟩
  have h1 := Int.emod_nonneg x (show (k : Int) ≠ 0 by omega)
  exact ⟨by unfold inM; rw [Int.toNat_natCast, Int.toNat_of_nonneg h1], rfl⟩

set_option maxHeartbeats 4000000 in
theorem in8_any (w : World) (v : Value) (l : List Nam) (s : Nam) (h : NamsAt w v l) (hln : l.length ≤ 1000000) : Calls Try.prog 27 #[v, encStr s] w fun e w' => e = .returned (.bool (decide (s ∈ l))) ∧ w = w' := by
  obtain ⟨a, c, rfl, hl⟩ := h
  have Hl := Lib.hid hl
  clear hl
  unfold encStr
  go_enter Try.func27, Try.ntmps27
  go_wp2_with fail
  go_loopw [5] (fun iv wr => ∃ j : Nat, iv = .int .i64 j ∧ j ≤ l.length ∧ s ∉ l.take j ∧ w = wr) (fun iv _ => l.length - (intOf iv).toNat)
  case atStart => exact ⟨0, rfl, Nat.zero_le _, by simp, rfl⟩
  case round =>
    obtain ⟨j, rfl, hj, hno, rfl⟩ := hrel
    have Hno := Lib.hid hno
    clear hno
    by_cases hlt : j < l.length
    · have hji : (j : Int) < (l.length : Int) := by omega
      have hj0 : (0 : Int) ≤ (j : Int) := by omega
      obtain ⟨g, rfl, hg, hr⟩ := Hl.out (by omega)
      obtain ⟨d, hd⟩ : ∃ d, l[j]? = some d := ⟨l[j], by simp [hlt]⟩
      have hcl := hr j d hd
      have Htk := Lib.hid (show l.take (j + 1) = l.take j ++ [d] by rw [List.take_add_one, hd]; rfl)
      have Hd := Lib.hid hd
      unfold encStr at hcl
      clear hr hd
      by_cases hs : d = s
      · have hsb : (d == s) = true := by simpa using hs
        go_wp2
        go_ret
        refine ⟨?_, rfl⟩
        have : decide (s ∈ l) = true := by simp; rw [← hs]; exact List.mem_of_getElem? Hd.out
        rw [this]
        rfl
      · have hsb : (d == s) = false := by simpa using hs
        go_wp2
        go_roundw
        case rel => exact ⟨j + 1, by go_num, by omega, by rw [Htk.out, List.mem_append]; rintro (h | h); exact Hno.out h; simp at h; exact hs h.symm, trivial⟩
        case measure => simp [intOf]; omega
    · have hji : ¬ (j : Int) < (l.length : Int) := by omega
      obtain rfl : j = l.length := by omega
      go_wp2
      go_ret
      refine ⟨?_, rfl⟩
      have := Hno.out
      rw [List.take_length] at this
      simp [this]

set_option maxHeartbeats 4000000 in
theorem same8_any (w : World) (v u : Value) (l m : List Nam) (hv : NamsAt w v l) (hu : NamsAt w u m) (hln : l.length ≤ 1000000) (hmn : m.length ≤ 1000000) : Calls Try.prog 21 #[v, u] w fun e w' => e = .returned (.bool (decide (l = m))) ∧ Only [] w w' := by
  obtain ⟨a, c, rfl, hl⟩ := hv
  obtain ⟨a2, c2, rfl, hm⟩ := hu
  have Hl := Lib.hid hl
  have Hm := Lib.hid hm
  clear hl hm
  by_cases hlen : m.length = l.length
  · rw [hlen]
    go_enter Try.func21, Try.ntmps21
    go_wp2_with fail
    go_loopw [5] (fun iv wr => ∃ j : Nat, iv = .int .i64 j ∧ j ≤ l.length ∧ l.take j = m.take j ∧ Only [] w wr) (fun iv _ => l.length - (intOf iv).toNat)
    case atStart => exact ⟨0, rfl, Nat.zero_le _, by simp, Only.refl _ _⟩
    case round =>
      obtain ⟨j, rfl, hj, hno, hO⟩ := hrel
      have Hno := Lib.hid hno
      have HO := Lib.hid hO
      clear hno hO
      by_cases hlt : j < l.length
      · have hji : (j : Int) < (l.length : Int) := by omega
        have hj0 : (0 : Int) ≤ (j : Int) := by omega
        have hjm : (j : Int) < (l.length : Int) := by omega
        obtain ⟨g, rfl, hg, hr⟩ := Hl.out (by omega)
        obtain ⟨g2, rfl, hg2, hr2⟩ := Hm.out (by omega)
        obtain ⟨d, hd⟩ : ∃ d, l[j]? = some d := ⟨l[j], by simp [hlt]⟩
        obtain ⟨d2, hd2⟩ : ∃ d2, m[j]? = some d2 := ⟨m[j]'(by omega), by simp⟩
        have hdr : Only [] wr wr.drew := (Only.refl [] wr).drew
        have hs0 : wr.drew.cell? ⟨g, j, none⟩ = some (.string ⟨d.toArray⟩) ∧ wr.drew.cell? ⟨g2, j, none⟩ = some (.string ⟨d2.toArray⟩) := ⟨((HO.out.plus hdr).cell (p := ⟨g, j, none⟩) hg (by simp)).trans (hr j d hd), ((HO.out.plus hdr).cell (p := ⟨g2, j, none⟩) hg2 (by simp)).trans (hr2 j d2 hd2)⟩
        have Hd := Lib.hid (And.intro hd hd2)
        clear hr hr2 hd hd2
        by_cases hs : d = d2
        · subst hs
          go_upto_region 6 with fail
          go_region_held3 (fun W => W.cell? ⟨g, j, none⟩ = some (.string ⟨d.toArray⟩) ∧ W.cell? ⟨g2, j, none⟩ = some (.string ⟨d.toArray⟩)) (first | exact hs0 | assumption) (fail)
          go_wp2
          go_roundw
          case rel => exact ⟨j + 1, by go_num, by omega, by rw [List.take_add_one, List.take_add_one, Hno.out, Hd.out.1, Hd.out.2], HO.out.plus hdr⟩
          case measure => simp [intOf]; omega
        · have hsn : (!d == d2) = true := by simpa using hs
          go_upto_region 6 with fail
          go_region_held3 (fun W => W.cell? ⟨g, j, none⟩ = some (.string ⟨d.toArray⟩) ∧ W.cell? ⟨g2, j, none⟩ = some (.string ⟨d2.toArray⟩)) (first | exact hs0 | assumption) (fail)
          go_wp2
          go_ret
          refine ⟨?_, HO.out.plus hdr⟩
          have : decide (l = m) = false := by
            simp only [decide_eq_false_iff_not]
            intro e
            subst e
            have := Hd.out.1.symm.trans Hd.out.2
            injection this with this
            exact hs this
          rw [this]
          rfl
      · have hji : ¬ (j : Int) < (l.length : Int) := by omega
        obtain rfl : j = l.length := by omega
        go_wp2
        go_ret
        refine ⟨?_, HO.out⟩
        have := Hno.out
        rw [List.take_length, ← hlen, List.take_length] at this
        simp [this]
  · have hli : ¬ (l.length : Int) = (m.length : Int) := by omega
    go_enter Try.func21, Try.ntmps21
    go_wp2
    go_ret
    refine ⟨?_, Only.refl _ _⟩
    have : decide (l = m) = false := by
      simp only [decide_eq_false_iff_not]
      intro e
      subst e
      exact hlen rfl
    rw [this]
    rfl

/-- Rows of names, to be read. -/
def NamssAt (w : World) (v : Value) (P : List (List Nam)) : Prop :=
  ∃ a c, v = .slice a P.length c ∧ ∀ (i : Nat) (p : List Nam), P[i]? = some p → ∃ g u, a = some ⟨g, 0, none⟩ ∧ g < w.heap.size ∧ w.cell? ⟨g, i, none⟩ = some u ∧ NamsAt w u p
theorem NamssAt.more {w w' : World} {v : Value} {P : List (List Nam)} (h : NamssAt w v P) (hO : Only [] w w') : NamssAt w' v P := by
  obtain ⟨a, c, e, h⟩ := h
  refine ⟨a, c, e, fun i p hp => ?_⟩
  obtain ⟨g, u, e, hg, hc, hu⟩ := h i p hp
  exact ⟨g, u, e, Nat.lt_of_lt_of_le hg hO.size, (hO.cell (p := ⟨g, i, none⟩) hg (by simp)).trans hc, hu.more hO⟩
theorem RowsN.namss {w : World} {base : Nat} {v : Value} {P : List (List Nam)} (h : RowsN w base v P) : NamssAt w v P := by
  obtain ⟨cs, h, hp⟩ := h
  have hh := h
  obtain ⟨a, c, rfl⟩ := owns_slice h
  refine ⟨a, c, rfl, fun i p hi => ?_⟩
  obtain ⟨u, hu, hr⟩ := hp i p hi
  have hlt := (List.getElem?_eq_some_iff.1 hi).1
  rcases h.2 with ⟨e1, e2⟩ | ⟨g, cap, cur, e1, hb, hg, hc, -⟩
  · omega
  · injection e1 with e1 e2 e3
    subst e1
    have := World.ownsRow.cells hh (g := g) rfl i u hu
    rw [Addr.add_mid, Nat.zero_add] at this
    exact ⟨g, u, rfl, IsBlk.lt hg, this, hr.nams⟩

set_option maxHeartbeats 4000000 in
theorem all8_any (w : World) (v u : Value) (P Q : List (List Nam)) (hv : NamssAt w v P) (hu : NamssAt w u Q) (hln : P.length ≤ 1000000) (hmn : Q.length ≤ 1000000) (hP : ∀ p ∈ P, p.length ≤ 1000000) (hQ : ∀ p ∈ Q, p.length ≤ 1000000) : Calls Try.prog 12 #[v, u] w fun e w' => e = .returned (.bool (decide (P = Q))) ∧ Only [] w w' := by
  obtain ⟨a, c, rfl, hl⟩ := hv
  obtain ⟨a2, c2, rfl, hm⟩ := hu
  have Hl := Lib.hid hl
  have Hm := Lib.hid hm
  clear hl hm
  by_cases hlen : Q.length = P.length
  · rw [hlen]
    go_enter Try.func12, Try.ntmps12
    go_wp2_with fail
    go_loopw [5] (fun iv wr => ∃ j : Nat, iv = .int .i64 j ∧ j ≤ P.length ∧ P.take j = Q.take j ∧ Only [] w wr) (fun iv _ => P.length - (intOf iv).toNat)
    case atStart => exact ⟨0, rfl, Nat.zero_le _, by simp, Only.refl _ _⟩
    case round =>
      obtain ⟨j, rfl, hj, hno, hO⟩ := hrel
      have Hno := Lib.hid hno
      have HO := Lib.hid hO
      clear hno hO
      by_cases hlt : j < P.length
      · have hji : (j : Int) < (P.length : Int) := by omega
        have hj0 : (0 : Int) ≤ (j : Int) := by omega
        have hjm : (j : Int) < (P.length : Int) := by omega
        obtain ⟨d, hd⟩ : ∃ d, P[j]? = some d := ⟨P[j], by simp [hlt]⟩
        obtain ⟨d2, hd2⟩ : ∃ d2, Q[j]? = some d2 := ⟨Q[j]'(by omega), by simp⟩
        obtain ⟨g, x, rfl, hg, hcx, hx⟩ := Hl.out j d hd
        obtain ⟨g2, y, rfl, hg2, hcy, hy⟩ := Hm.out j d2 hd2
        have hdr : Only [] wr wr.drew := (Only.refl [] wr).drew
        have hs0 : wr.drew.cell? ⟨g, j, none⟩ = some x ∧ wr.drew.cell? ⟨g2, j, none⟩ = some y := ⟨((HO.out.plus hdr).cell (p := ⟨g, j, none⟩) hg (by simp)).trans hcx, ((HO.out.plus hdr).cell (p := ⟨g2, j, none⟩) hg2 (by simp)).trans hcy⟩
        have Hd := Lib.hid (And.intro hd hd2)
        have HS := Lib.hid (same8_any wr.drew x y d d2 (hx.more (HO.out.plus hdr)) (hy.more (HO.out.plus hdr)) (hP d (List.mem_of_getElem? hd)) (hQ d2 (List.mem_of_getElem? hd2)))
        have hxs : x.oneCell' = true := by obtain ⟨_, _, e, -⟩ := hx; rw [e]; rfl
        have hys : y.oneCell' = true := by obtain ⟨_, _, e, -⟩ := hy; rw [e]; rfl
        obtain ⟨ax, cx, rfl, -⟩ := hx
        obtain ⟨ay, cy, rfl, -⟩ := hy
        clear hcx hcy hd hd2
        go_upto_region 6 with fail
        go_region_held3 (fun W => W.cell? ⟨g, j, none⟩ = some (.slice ax d.length cx) ∧ W.cell? ⟨g2, j, none⟩ = some (.slice ay d2.length cy)) (first | exact hs0 | assumption)
          (first
            | (go_at_call 21
               with_reducible refine HS.out.mono ?_
               rintro e w3 ⟨rfl, hO3⟩
               have hs3 : w3.cell? ⟨g, j, none⟩ = some (.slice ax d.length cx) ∧ w3.cell? ⟨g2, j, none⟩ = some (.slice ay d2.length cy) := ⟨(hO3.cell (p := ⟨g, j, none⟩) (World.block_lt_of_cell? _ _ hs0.1) (by simp)).trans hs0.1, (hO3.cell (p := ⟨g2, j, none⟩) (World.block_lt_of_cell? _ _ hs0.2) (by simp)).trans hs0.2⟩))
        have HO3 := Lib.hid (HO.out.plus (hdr.plus hO3))
        clear hs3 hs0 hO3
        cases hbb : decide (d = d2) with
        | true =>
          have Hs := Lib.hid (of_decide_eq_true hbb)
          clear hbb
          go_wp2
          go_roundw
          case rel => exact ⟨j + 1, by go_num, by omega, by rw [List.take_add_one, List.take_add_one, Hno.out, Hd.out.1, Hd.out.2, Hs.out], HO3.out⟩
          case measure => simp [intOf]; omega
        | false =>
          have Hs := Lib.hid (of_decide_eq_false hbb)
          clear hbb
          go_wp2
          go_ret
          refine ⟨?_, HO3.out⟩
          have : decide (P = Q) = false := by
            simp only [decide_eq_false_iff_not]
            intro e
            subst e
            have := Hd.out.1.symm.trans Hd.out.2
            injection this with this
            exact Hs.out this
          rw [this]
          rfl
      · have hji : ¬ (j : Int) < (P.length : Int) := by omega
        obtain rfl : j = P.length := by omega
        go_wp2
        go_ret
        refine ⟨?_, HO.out⟩
        have := Hno.out
        rw [List.take_length, ← hlen, List.take_length] at this
        simp [this]
  · have hli : ¬ (P.length : Int) = (Q.length : Int) := by omega
    go_enter Try.func12, Try.ntmps12
    go_wp2
    go_ret
    refine ⟨?_, Only.refl _ _⟩
    have : decide (P = Q) = false := by
      simp only [decide_eq_false_iff_not]
      intro e
      subst e
      exact hlen rfl
    rw [this]
    rfl

end Go.Proofs.Ytgkddbpfjbgelaa
