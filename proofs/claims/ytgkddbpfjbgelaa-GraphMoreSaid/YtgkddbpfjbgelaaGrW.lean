/-
  The document's Parts.
-/
import Derived.Test.YtgkddbpfjbgelaaGrV
namespace Go.Proofs.Ytgkddbpfjbgelaa
set_option maxRecDepth 100000
set_option linter.unusedVariables false
open Go.RowKit Go.Sort Go.Maps

theorem filt_yes {α : Type} {l : List α} {k : Nat} {x : α} {p : α → Bool} (h : l[k]? = some x) (hp : p x = true) : (l.take (k + 1)).filter p = (l.take k).filter p ++ [x] := by
  rw [List.take_add_one, h, List.filter_append]; simp [hp]
theorem filt_no {α : Type} {l : List α} {k : Nat} {x : α} {p : α → Bool} (h : l[k]? = some x) (hp : p x = false) : (l.take (k + 1)).filter p = (l.take k).filter p := by
  rw [List.take_add_one, h, List.filter_append]; simp [hp]
theorem rowsN_base {w : World} {base base' : Nat} {v : Value} {P : List (List Nam)} (h : RowsN w base v P) (hb : base' ≤ base) : RowsN w base' v P := by
  obtain ⟨cs, h1, h2⟩ := h
  refine ⟨cs, owns_base h1 hb, fun i p hp => ?_⟩
  obtain ⟨u, k1, k2⟩ := h2 i p hp
  exact ⟨u, k1, owns_base k2 hb⟩
theorem apart_next {w w1 : World} {base : Nat} {u v v' : Value} {l : List Nam} (hu : OwnN w base u l) (ha : ∀ b, u.ownBlock = some b → v.ownBlock ≠ some b) (hs : w.heap.size ≤ w1.heap.size) (k3 : v'.ownBlock = v.ownBlock ∨ v'.ownBlock = some w1.heap.size) : ∀ b, u.ownBlock = some b → v'.ownBlock ≠ some b := by
  intro b hb
  rcases k3 with e | e
  · rw [e]; exact ha b hb
  · rw [e]
    intro hx
    have := (World.ownsRow.lt hu b hb).2
    injection hx with hx
    omega
theorem infoSS8 : (Try.prog.info? 24).map (fun i => (i.zero, i.size, i.bytes)) = some (some (.slice none 0 0), 1, 24) := by kernel_rfl

/-- The part that grows, beside what is done. -/
def PartI (w : World) (base : Nat) (v : Value) (p : List Nam) (D : Value) : Prop := OwnN w base v p ∧ (p = [] → v = .slice none 0 0) ∧ ∀ b, v.ownBlock = some b → D.ownBlock ≠ some b
theorem PartI.nilOr {w : World} {base : Nat} {v D : Value} {p : List Nam} (h : PartI w base v p D) : NilOr w v p := by
  cases p with
  | nil => exact .inl ⟨rfl, h.2.1 rfl⟩
  | cons a r => exact OwnN.nilOr h.1 (by simp)

open Classical in
noncomputable def partK (N : List Nam) (E : List (Nam × Nam)) (x : Nam) (k : Nat) : List Nam := (N.take k).filter (fun t => decide (SmN E x t))
theorem partK_zero (N : List Nam) (E : List (Nam × Nam)) (x : Nam) : partK N E x 0 = [] := by simp [partK]
theorem partK_all (N : List Nam) (E : List (Nam × Nam)) (x : Nam) : partK N E x N.length = partR N E x := by simp [partK, partR]
theorem partK_yes {N : List Nam} {E : List (Nam × Nam)} {x y : Nam} {k : Nat} (h : N[k]? = some y) (hs : SmN E x y) : partK N E x (k + 1) = partK N E x k ++ [y] := by
  unfold partK
  classical
  exact filt_yes h (by simpa using hs)
theorem partK_no {N : List Nam} {E : List (Nam × Nam)} {x y : Nam} {k : Nat} (h : N[k]? = some y) (hs : ¬ SmN E x y) : partK N E x (k + 1) = partK N E x k := by
  unfold partK
  classical
  exact filt_no h (by simpa using hs)
theorem partK_len (N : List Nam) (E : List (Nam × Nam)) (x : Nam) (k : Nat) : (partK N E x k).length ≤ N.length := by
  unfold partK
  classical
  have h1 := List.length_filter_le (fun t => decide (SmN E x t)) (N.take k)
  have h2 := List.length_take_le' k N
  omega
theorem partK_lt {N : List Nam} {E : List (Nam × Nam)} {x y : Nam} {k : Nat} (hs : N.Pairwise (· < ·)) (h : N[k]? = some y) : ∀ t ∈ partK N E x k, t < y := by
  intro t ht
  unfold partK at ht
  have ht := (List.mem_filter.1 ht).1
  obtain ⟨j, hj⟩ := List.mem_iff_getElem?.1 ht
  rw [List.getElem?_take] at hj
  split at hj
  · rename_i hjk
    have h1 := List.getElem?_eq_some_iff.1 hj
    have h2 := List.getElem?_eq_some_iff.1 h
    have := List.pairwise_iff_getElem.1 hs j k h1.1 h2.1 hjk
    rw [h1.2, h2.2] at this
    exact this
  · cases hj

def RPartsTo (w : World) (N : List Nam) (E : List (Nam × Nam)) (r : Ending) (w' : World) : Prop := ∃ v, r = .returned v ∧ RowsN w' w.heap.size v (outR N (allE N E) N.length) ∧ Only [] w w'

set_option maxHeartbeats 32000000 in
theorem rparts_any (w : World) (v u : Value) (N : List Nam) (E : List (Nam × Nam)) (hN : NamsAt w v N) (hE : EdgesAt w u E) (hs : N.Pairwise (· < ·)) (hn : N.length ≤ 12) (hEl : E.length ≤ 9000) :
    Calls Try.prog 14 #[v, u] w (RPartsTo w N E) := by
  have HN := Lib.hid hN
  obtain ⟨aN, cN, rfl, hN'⟩ := hN
  have HNc := Lib.hid hN'
  obtain ⟨au, cu, rfl, hE'⟩ := hE
  have HEc := Lib.hid hE'
  have Hs := Lib.hid hs
  clear hN' hE' hs
  go_enter Try.func14, Try.ntmps14
  go_wp2_with fail
  go_loopw [5, 6] (fun s5 s6 wr => ∃ k : Nat, s6 = .int .i64 k ∧ k ≤ E.length ∧ OwnE wr w.heap.size s5 ((E.take k).filter (inNN N)) ∧ Only [] w wr) (fun _ s6 _ => E.length - (intOf s6).toNat)
  case atStart => exact ⟨0, rfl, Nat.zero_le _, World.ownsRow_nil _ _ _ _, Only.refl _ _⟩
  case round =>
    obtain ⟨k, rfl, hk, how, hO⟩ := hrel
    have How := Lib.hid how
    have HO := Lib.hid hO
    clear how hO
    by_cases hlt : k < E.length
    · have hki : (k : Int) < (E.length : Int) := by omega
      have hk0 : (0 : Int) ≤ (k : Int) := by omega
      obtain ⟨x, hx⟩ : ∃ x, E[k]? = some x := ⟨E[k], by simp [hlt]⟩
      obtain ⟨g, rfl, hg, h1, h2⟩ := HEc.out k x hx
      have d1 := (HO.out.cell (p := ⟨g, k * 2, none⟩) hg (by simp)).trans h1
      have d2 := (HO.out.cell (p := ⟨g, k * 2 + 1, none⟩) hg (by simp)).trans h2
      have Hx := Lib.hid hx
      have hgw : g < wr.heap.size := Nat.lt_of_lt_of_le hg HO.out.size
      have hws := HO.out.size
      have hH1 := in8_any wr _ N x.1 (HN.out.more HO.out) (by omega)
      have hH2 := in8_any wr _ N x.2 (HN.out.more HO.out) (by omega)
      have HH1 := Lib.hid hH1
      have HH2 := Lib.hid hH2
      clear hx h1 h2 hH1 hH2
      obtain ⟨xa, xb⟩ := x
      unfold encStr at d1 d2
      simp only at d1 d2
      go_wp2_with fail
      refine (HH1.out).mono ?_
      rintro e w3 ⟨rfl, rfl⟩
      cases hb1 : decide (xa ∈ N) with
      | false =>
        have Hb : Hid (inNN N (xa, xb) = false) := Lib.hid (by unfold inNN; rw [hb1]; rfl)
        clear hb1
        go_wp2_with fail
        go_roundw
        case rel => exact ⟨k + 1, by go_num, by omega, by rw [filt_no Hx.out Hb.out]; exact How.out, HO.out⟩
        case measure => simp [intOf]; omega
      | true =>
        have Hb1 := Lib.hid hb1
        clear hb1
        go_wp2_with fail
        refine (HH2.out).mono ?_
        rintro e w3 ⟨rfl, rfl⟩
        cases hb2 : decide (xb ∈ N) with
        | false =>
          have Hb : Hid (inNN N (xa, xb) = false) := Lib.hid (by unfold inNN; rw [hb2, Bool.and_false])
          clear hb2
          go_wp2_with fail
          go_roundw
          case rel => exact ⟨k + 1, by go_num, by omega, by rw [filt_no Hx.out Hb.out]; exact How.out, HO.out⟩
          case measure => simp [intOf]; omega
        | true =>
          have Hb : Hid (inNN N (xa, xb) = true) := Lib.hid (by unfold inNN; rw [hb2, Hb1.out]; rfl)
          clear hb2
          have hOl : Only [] wr (wr.alloc (.cells #[.string ⟨xa.toArray⟩, .string ⟨xb.toArray⟩] 35)) := (Only.refl _ _).alloc _
          have hfl : ((E.take k).filter (inNN N)).length ≤ 1000000 := by
            have h1 := List.length_filter_le (inNN N) (E.take k)
            have h2 := List.length_take_le' k E
            omega
          go_wp2_with
           (at_builtin
            refine wpList_append_e rfl _ _ rfl w.heap.size u5 ((E.take k).filter (inNN N)) rfl (owns_off How.out hOl (by simp)) wr.heap.size 1 (xa, xb) rfl ((IsBlk.made wr _).cell 0) ((IsBlk.made wr _).cell 1) hfl (by simp; omega) ?_
            intro v' w5 k5 kO)
          go_roundw
          case rel => exact ⟨k + 1, by go_num, by omega, by rw [filt_yes Hx.out Hb.out]; exact k5, (HO.out.plus hOl).then kO [] (by simp) (fun i hi => .inr (World.ownsRow.lt How.out i (mem_ownL.1 hi)).1)⟩
          case measure => simp [intOf]; omega
    · have hki : ¬ (k : Int) < (E.length : Int) := by omega
      obtain rfl : k = E.length := by omega
      go_wp2_with fail
      have hEd : OwnE wr w.heap.size u5 (allE N E) := by have := How.out; rw [List.take_length] at this; exact this
      have hws := HO.out.size
      have HEd0 := Lib.hid hEd.edges
      obtain ⟨aE, cE, rfl⟩ := owns_slice hEd
      have hal : (allE N E).length ≤ 9000 := by have := List.length_filter_le (inNN N) E; unfold allE; omega
      have HOw := HO
      have HNw : Hid (NamsAt wr (.slice aN N.length cN) N) := Lib.hid (HN.out.more HO.out)
      clear hEd How hlt hki hk
      generalize hw2 : wr = w2 at *
      clear hw2
      go_loopw [7, 8, 9] (fun s7 s8 s9 wr => ∃ (i : Nat) (D : List Nam), s9 = .int .i64 i ∧ i ≤ N.length ∧ OwnN wr w2.heap.size s8 D ∧ DoneI N (allE N E) i D ∧ OutN wr w2.heap.size s7 (outR N (allE N E) i) s8 ∧ Only [] w2 wr) (fun _ _ s9 _ => N.length - (intOf s9).toNat)
      case atStart => exact ⟨0, [], rfl, Nat.zero_le _, World.ownsRow_nil _ _ _ _, ⟨fun t _ => by simp, by simp⟩, OutN.nil _ _ _, Only.refl _ _⟩
      case round =>
        obtain ⟨i, D, rfl, hi, howD, hDI, hout, hO2⟩ := hrel
        have HowD := Lib.hid howD
        have HDI := Lib.hid hDI
        have Hout := Lib.hid hout
        have HO2 := Lib.hid hO2
        clear howD hDI hout hO2
        by_cases hlt : i < N.length
        · have hii : (i : Int) < (N.length : Int) := by omega
          have hi0 : (0 : Int) ≤ (i : Int) := by omega
          obtain ⟨gN, rfl, hgN, hcN⟩ := HNc.out (by omega)
          obtain ⟨x, hx⟩ : ∃ x, x = nm8 N i := ⟨_, rfl⟩
          have Hx := Lib.hid hx
          have HxN : Hid (N[i]? = some x) := Lib.hid (by rw [hx]; exact nm8_get hlt)
          clear hx
          have Hcl : Hid (∀ W, Only [] w2 W → ∀ (j : Nat) (t : Nam), N[j]? = some t → W.cell? ⟨gN, j, none⟩ = some (.string ⟨t.toArray⟩)) := Lib.hid (fun W hW j t ht => ((HOw.out.plus hW).cell (p := ⟨gN, j, none⟩) hgN (by simp)).trans (hcN j t ht))
          have d1 := Hcl.out wr HO2.out i x HxN.out
          have hgw : gN < wr.heap.size := Nat.lt_of_lt_of_le hgN (HOw.out.plus HO2.out).size
          have hDl : D.length ≤ 1000 := by
            have h1 := HDI.out.len
            have h2 := Nat.mul_le_mul (show i ≤ 12 by omega) hn
            omega
          have HIn := Lib.hid (in8_any wr u8 D x HowD.out.nams (by omega))
          clear hcN
          go_wp2_with fail
          refine (HIn.out).mono ?_
          rintro e w3 ⟨rfl, rfl⟩
          cases hb : decide (x ∈ D) with
          | true =>
            have Hsk := Lib.hid (HDI.out.skip hlt (by rw [← Hx.out]; exact of_decide_eq_true hb))
            clear hb
            go_wp2_with fail
            go_roundw
            case rel => exact ⟨i + 1, D, by go_num, hlt, HowD.out, Hsk.out.2, by rw [outR_no Hsk.out.1]; exact Hout.out, HO2.out⟩
            case measure => simp [intOf]; omega
          | false =>
            have Hgo := Lib.hid (HDI.out.go hlt (by rw [← Hx.out]; exact of_decide_eq_false hb))
            rw [← Hx.out] at Hgo
            clear hb
            have HLd := Lib.hid (led8_any wr (.slice aE (allE N E).length cE) (allE N E) x (HEd0.out.more HO2.out) (by omega))
            go_wp2_with fail
            refine (HLd.out).mono ?_
            rintro e w3 ⟨vT, L1, rfl, hT, hTL, hTl, hO3⟩
            have HTL := Lib.hid hTL
            have hDT : ∀ b, vT.ownBlock = some b → u8.ownBlock ≠ some b := fun b hb hb2 => by
              have h1 := (World.ownsRow.lt hT b hb).1
              have h2 := (World.ownsRow.lt HowD.out b hb2).2
              omega
            have HO3 := Lib.hid (HO2.out.plus hO3)
            have HT := Lib.hid (owns_base hT HO2.out.size : OwnN w3 w2.heap.size vT L1)
            have HDT := Lib.hid hDT
            have HowD3 := Lib.hid (OwnN.off HowD.out hO3 (by simp))
            have Hout3 := Lib.hid (Hout.out.keep hO3)
            clear hTL hDT hT hO3 HowD Hout HIn HLd d1 HO2
            go_wp2_with fail
            go_loopw [8, 10, 12] (fun s8 s10 s12 wk => ∃ k : Nat, s12 = .int .i64 k ∧ k ≤ N.length ∧ OwnN wk w2.heap.size s8 (D ++ partK N (allE N E) x k) ∧ PartI wk w2.heap.size s10 (partK N (allE N E) x k) s8 ∧ OwnN wk w2.heap.size vT L1 ∧ (∀ b, vT.ownBlock = some b → s8.ownBlock ≠ some b) ∧ OutN wk w2.heap.size u7 (outR N (allE N E) i) s8 ∧ Only [] w2 wk) (fun _ _ s12 _ => N.length - (intOf s12).toNat)
            case atStart => exact ⟨0, rfl, Nat.zero_le _, by rw [partK_zero, List.append_nil]; exact HowD3.out, by rw [partK_zero]; exact ⟨World.ownsRow_nil _ _ _ _, fun _ => rfl, fun b hb => by cases hb⟩, HT.out, HDT.out, Hout3.out, HO3.out⟩
            case round =>
              obtain ⟨k, rfl, hk, hwD, hwP, hwT, hTD, hwO, hO4⟩ := hrel
              have HwD := Lib.hid hwD
              have HwP := Lib.hid hwP
              have HwT := Lib.hid hwT
              have HTD := Lib.hid hTD
              have HwO := Lib.hid hwO
              have HO4 := Lib.hid hO4
              clear hwD hwP hwT hTD hwO hO4
              have hpl := partK_len N (allE N E) x k
              have hdl : (D ++ partK N (allE N E) x k).length ≤ 1012 := by rw [List.length_append]; omega
              by_cases hltk : k < N.length
              · have hkk : (k : Int) < (N.length : Int) := by omega
                have hk0 : (0 : Int) ≤ (k : Int) := by omega
                obtain ⟨y, hy⟩ : ∃ y, N[k]? = some y := ⟨N[k], by simp [hltk]⟩
                have Hy := Lib.hid hy
                clear hy
                have hdr : Only [] wr wr.drew := (Only.refl [] wr).drew
                have Hld : Hid (∀ W, Only [] wr W → W.cell? ⟨gN, k, none⟩ = some (.string ⟨y.toArray⟩) ∧ W.cell? ⟨gN, i, none⟩ = some (.string ⟨x.toArray⟩)) := Lib.hid (fun W hW => ⟨Hcl.out W (HO4.out.plus hW) k y Hy.out, Hcl.out W (HO4.out.plus hW) i x HxN.out⟩)
                obtain ⟨b1, hb1⟩ : ∃ b1, b1 = decide (y ∈ L1) := ⟨_, rfl⟩
                have HIn1 : Hid (∀ W, Only [] wr W → Calls Try.prog 27 #[vT, .string ⟨y.toArray⟩] W fun e w' => e = .returned (.bool b1) ∧ W = w') := Lib.hid (fun W hW => by rw [hb1]; exact in8_any W vT L1 y (OwnN.off HwT.out hW (by simp)).nams (by omega))
                obtain ⟨b2, hb2⟩ : ∃ b2 : Bool, b2 = true ↔ RchN (allE N E) y x := by
                  classical
                  exact ⟨decide (RchN (allE N E) y x), by simp⟩
                have HLed : Hid (∀ W, Only [] wr W → Calls Try.prog 32 #[.string ⟨y.toArray⟩, .slice aE (allE N E).length cE] W (LedTo W (allE N E) y)) := Lib.hid (fun W hW => led8_any W _ _ y (HEd0.out.more (HO4.out.plus hW)) (by omega))
                have HIn2 : Hid (∀ W v, (∃ L, OwnN W 0 v L ∧ (∀ t, t ∈ L ↔ RchN (allE N E) y t) ∧ L.length ≤ 10000) → Calls Try.prog 27 #[v, .string ⟨x.toArray⟩] W fun e w' => e = .returned (.bool b2) ∧ W = w') := Lib.hid (fun W v h => by
                  obtain ⟨L, h1, h2, h3⟩ := h
                  refine (in8_any W v L x h1.nams (by omega)).mono ?_
                  rintro e w' ⟨rfl, rfl⟩
                  refine ⟨?_, rfl⟩
                  congr 2
                  rw [Bool.eq_iff_iff, hb2, ← h2 x]
                  simp)
                have Hb1 : Hid (b1 = true ↔ RchN (allE N E) x y) := Lib.hid (by rw [hb1, ← HTL.out y]; simp)
                have Hb2 := Lib.hid hb2
                clear hb1 hb2
                go_upto_region 18 with fail
                cases b1 with
                | false =>
                  have Hno : Hid (¬ SmN (allE N E) x y) := Lib.hid (fun h => by have := Hb1.out.2 h.1; cases this)
                  refine wp_region_stabL (P := Try.prog) 19 (by kernel_rfl) (by kernel_rfl) (Only []) (Only.refl _ _) (fun _ _ _ h k => h.then k [] (by simp) (by simp))
                    [SP.is (vT),
                     SP.is (.slice (some ⟨gN, 0, none⟩) N.length cN),
                     SP.is (.int .i64 k),
                     SP.is (.pointer (some ⟨gN, k, none⟩)),
                     SP.is (.string ⟨y.toArray⟩),
                     SP.is (.bool false),
                     SP.is (.bool false),
                     SP.is (undef),
                     SP.is (undef),
                     SP.is (undef),
                     SP.is (undef),
                     SP.is (undef),
                     SP.is (undef),
                     SP.is (undef),
                     SP.is (undef),
                     SP.is (undef),
                     SP.is (undef),
                     SP.is (undef),
                     SP.is (.bool false)] ?_ ?_
                  · simp only [List.take_succ_cons, List.take_zero]
                    refine StepsOK.cons ?_ (StepsOK.cons ?_ (StepsOK.cons ?_ (StepsOK.cons ?_ (StepsOK.cons ?_ (StepsOK.cons ?_ (StepsOK.cons ?_ (StepsOK.cons ?_ (StepsOK.cons ?_ (StepsOK.cons ?_ (StepsOK.cons ?_ (StepsOK.cons ?_ (StepsOK.cons ?_ (StepsOK.cons ?_ (StepsOK.cons ?_ (StepsOK.cons ?_ (StepsOK.cons ?_ (StepsOK.cons ?_ (StepsOK.cons ?_ StepsOK.nil))))))))))))))))))
                    · intro a W L N hR hold hφ hcl hkp hd K hK
                      have e11 := hold 11 (by kernel_rfl)
                      clear hold hφ hcl hkp hd
                      rw [if_pos (by rfl)]
                      go_simp
                      exact hK _ _ (Only.refl _ _) rfl
                    · intro a W L N hR hold hφ hcl hkp hd K hK
                      have e0 := hold 0 (by kernel_rfl)
                      clear hold hφ hcl hkp hd
                      rw [if_pos (by rfl)]
                      go_simp
                      exact hK _ _ (Only.refl _ _) rfl
                    · intro a W L N hR hold hφ hcl hkp hd K hK
                      have e12 := hold 12 (by kernel_rfl)
                      clear hold hφ hcl hkp hd
                      rw [if_pos (by rfl)]
                      go_simp
                      exact hK _ _ (Only.refl _ _) rfl
                    · intro a W L N hR hold hφ hcl hkp hd K hK
                      have e67 := got hφ (hd 1 (by kernel_rfl)) rfl rfl rfl
                      have e68 := got hφ (hd 2 (by kernel_rfl)) rfl rfl rfl
                      clear hold hφ hcl hkp hd
                      rw [if_pos (by rfl)]
                      go_simp
                      exact hK _ _ (Only.refl _ _) rfl
                    · intro a W L N hR hold hφ hcl hkp hd K hK
                      have e69 := got hφ (hd 3 (by kernel_rfl)) rfl rfl rfl
                      have hcl0 := Hld.out W (Only.plus hdr hR)
                      clear hold hφ hcl hkp hd
                      rw [if_pos (by rfl)]
                      go_simp
                      exact hK _ _ (Only.refl _ _) rfl
                    · intro a W L N hR hold hφ hcl hkp hd K hK
                      have e66 := got hφ (hd 0 (by kernel_rfl)) rfl rfl rfl
                      have e70 := got hφ (hd 4 (by kernel_rfl)) rfl rfl rfl
                      have hW := Only.plus hdr hR
                      clear hold hφ hcl hkp hd
                      rw [if_pos (by rfl)]
                      go_simp
                      refine (HIn1.out W hW).mono ?_
                      rintro e w' ⟨rfl, rfl⟩
                      exact hK _ _ (Only.refl _ _) rfl
                    · intro a W L N hR hold hφ hcl hkp hd K hK
                      have e71 := got hφ (hd 5 (by kernel_rfl)) rfl rfl rfl
                      clear hold hφ hcl hkp hd
                      rw [if_pos (by rfl)]
                      go_simp
                      exact hK _ _ (Only.refl _ _) rfl
                    · intro a W L N hR hold hφ hcl hkp hd K hK
                      have e0 := hold 0 (by kernel_rfl)
                      have e72 := got hφ (hd 6 (by kernel_rfl)) rfl rfl rfl
                      clear hold hφ hcl hkp hd
                      rw [if_neg (by simp [Region.wanted, yielded, e72])]
                      exact hK _ _ (Only.refl _ _) rfl
                    · intro a W L N hR hold hφ hcl hkp hd K hK
                      have e12 := hold 12 (by kernel_rfl)
                      have e72 := got hφ (hd 6 (by kernel_rfl)) rfl rfl rfl
                      clear hold hφ hcl hkp hd
                      rw [if_neg (by simp [Region.wanted, yielded, e72])]
                      exact hK _ _ (Only.refl _ _) rfl
                    · intro a W L N hR hold hφ hcl hkp hd K hK
                      have e73 := got hφ (hd 7 (by kernel_rfl)) rfl rfl rfl
                      have e74 := got hφ (hd 8 (by kernel_rfl)) rfl rfl rfl
                      have e72 := got hφ (hd 6 (by kernel_rfl)) rfl rfl rfl
                      clear hold hφ hcl hkp hd
                      rw [if_neg (by simp [Region.wanted, yielded, e72])]
                      exact hK _ _ (Only.refl _ _) rfl
                    · intro a W L N hR hold hφ hcl hkp hd K hK
                      have e75 := got hφ (hd 9 (by kernel_rfl)) rfl rfl rfl
                      have e72 := got hφ (hd 6 (by kernel_rfl)) rfl rfl rfl
                      clear hold hφ hcl hkp hd
                      rw [if_neg (by simp [Region.wanted, yielded, e72])]
                      exact hK _ _ (Only.refl _ _) rfl
                    · intro a W L N hR hold hφ hcl hkp hd K hK
                      have e5 := hold 5 (by kernel_rfl)
                      have e72 := got hφ (hd 6 (by kernel_rfl)) rfl rfl rfl
                      clear hold hφ hcl hkp hd
                      rw [if_neg (by simp [Region.wanted, yielded, e72])]
                      exact hK _ _ (Only.refl _ _) rfl
                    · intro a W L N hR hold hφ hcl hkp hd K hK
                      have e76 := got hφ (hd 10 (by kernel_rfl)) rfl rfl rfl
                      have e77 := got hφ (hd 11 (by kernel_rfl)) rfl rfl rfl
                      have e72 := got hφ (hd 6 (by kernel_rfl)) rfl rfl rfl
                      clear hold hφ hcl hkp hd
                      rw [if_neg (by simp [Region.wanted, yielded, e72])]
                      exact hK _ _ (Only.refl _ _) rfl
                    · intro a W L N hR hold hφ hcl hkp hd K hK
                      have e0 := hold 0 (by kernel_rfl)
                      have e72 := got hφ (hd 6 (by kernel_rfl)) rfl rfl rfl
                      clear hold hφ hcl hkp hd
                      rw [if_neg (by simp [Region.wanted, yielded, e72])]
                      exact hK _ _ (Only.refl _ _) rfl
                    · intro a W L N hR hold hφ hcl hkp hd K hK
                      have e9 := hold 9 (by kernel_rfl)
                      have e72 := got hφ (hd 6 (by kernel_rfl)) rfl rfl rfl
                      clear hold hφ hcl hkp hd
                      rw [if_neg (by simp [Region.wanted, yielded, e72])]
                      exact hK _ _ (Only.refl _ _) rfl
                    · intro a W L N hR hold hφ hcl hkp hd K hK
                      have e79 := got hφ (hd 13 (by kernel_rfl)) rfl rfl rfl
                      have e80 := got hφ (hd 14 (by kernel_rfl)) rfl rfl rfl
                      have e72 := got hφ (hd 6 (by kernel_rfl)) rfl rfl rfl
                      clear hold hφ hcl hkp hd
                      rw [if_neg (by simp [Region.wanted, yielded, e72])]
                      exact hK _ _ (Only.refl _ _) rfl
                    · intro a W L N hR hold hφ hcl hkp hd K hK
                      have e81 := got hφ (hd 15 (by kernel_rfl)) rfl rfl rfl
                      have e72 := got hφ (hd 6 (by kernel_rfl)) rfl rfl rfl
                      clear hold hφ hcl hkp hd
                      rw [if_neg (by simp [Region.wanted, yielded, e72])]
                      exact hK _ _ (Only.refl _ _) rfl
                    · intro a W L N hR hold hφ hcl hkp hd K hK
                      have e78 := got hφ (hd 12 (by kernel_rfl)) rfl rfl rfl
                      have e82 := got hφ (hd 16 (by kernel_rfl)) rfl rfl rfl
                      have e72 := got hφ (hd 6 (by kernel_rfl)) rfl rfl rfl
                      clear hold hφ hcl hkp hd
                      rw [if_neg (by simp [Region.wanted, yielded, e72])]
                      exact hK _ _ (Only.refl _ _) rfl
                    · intro a W L N hR hold hφ hcl hkp hd K hK
                      have e72 := got hφ (hd 6 (by kernel_rfl)) rfl rfl rfl
                      have e83 := got hφ (hd 17 (by kernel_rfl)) rfl rfl rfl
                      clear hold hφ hcl hkp hd
                      rw [if_pos (by rfl)]
                      go_simp
                      exact hK _ _ (Only.refl _ _) rfl
                  · intro us W hO' hus
                    have p84 : us 18 = .bool false := hus 18 _ 84 (by omega) rfl rfl
                    clear hus
                    simp only [List.take_succ_cons, List.take_zero, List.drop_succ_cons, List.drop_zero, fillAct, Act.put, List.setIfInBounds_toArray, List.set_cons_zero, List.set_cons_succ, Nat.reduceAdd, p84]
                    clear p84
                    have HOW := Lib.hid (Only.plus hdr hO')
                    clear hO'
                    go_wp2_with fail
                    go_roundw
                    case rel => exact ⟨k + 1, by go_num, by omega, by rw [partK_no Hy.out Hno.out]; exact OwnN.off HwD.out HOW.out (by simp), by rw [partK_no Hy.out Hno.out]; exact ⟨OwnN.off HwP.out.1 HOW.out (by simp), HwP.out.2⟩, OwnN.off HwT.out HOW.out (by simp), HTD.out, HwO.out.keep HOW.out, HO4.out.plus HOW.out⟩
                    case measure => simp [intOf]; omega
                | true =>
                  have HR1 := Lib.hid (Hb1.out.1 rfl)
                  refine wp_region_stabL (P := Try.prog) 19 (by kernel_rfl) (by kernel_rfl) (Only []) (Only.refl _ _) (fun _ _ _ h k => h.then k [] (by simp) (by simp))
                    [SP.is (vT),
                     SP.is (.slice (some ⟨gN, 0, none⟩) N.length cN),
                     SP.is (.int .i64 k),
                     SP.is (.pointer (some ⟨gN, k, none⟩)),
                     SP.is (.string ⟨y.toArray⟩),
                     SP.is (.bool true),
                     SP.is (.bool true),
                     SP.is (.slice (some ⟨gN, 0, none⟩) N.length cN),
                     SP.is (.int .i64 k),
                     SP.is (.pointer (some ⟨gN, k, none⟩)),
                     SP.is (.string ⟨y.toArray⟩),
                     SP.is (.slice aE (allE N E).length cE),
                     ⟨fun v W => ∃ L, OwnN W 0 v L ∧ (∀ t, t ∈ L ↔ RchN (allE N E) y t) ∧ L.length ≤ 10000, fun _ _ _ ⟨L, h1, h2, h3⟩ hO => ⟨L, OwnN.off h1 hO (by simp), h2, h3⟩⟩,
                     SP.is (.slice (some ⟨gN, 0, none⟩) N.length cN),
                     SP.is (.int .i64 i),
                     SP.is (.pointer (some ⟨gN, i, none⟩)),
                     SP.is (.string ⟨x.toArray⟩),
                     SP.is (.bool b2),
                     SP.is (.bool b2)] ?_ ?_
                  · simp only [List.take_succ_cons, List.take_zero]
                    refine StepsOK.cons ?_ (StepsOK.cons ?_ (StepsOK.cons ?_ (StepsOK.cons ?_ (StepsOK.cons ?_ (StepsOK.cons ?_ (StepsOK.cons ?_ (StepsOK.cons ?_ (StepsOK.cons ?_ (StepsOK.cons ?_ (StepsOK.cons ?_ (StepsOK.cons ?_ (StepsOK.cons ?_ (StepsOK.cons ?_ (StepsOK.cons ?_ (StepsOK.cons ?_ (StepsOK.cons ?_ (StepsOK.cons ?_ (StepsOK.cons ?_ StepsOK.nil))))))))))))))))))
                    · intro a W L N hR hold hφ hcl hkp hd K hK
                      have e11 := hold 11 (by kernel_rfl)
                      clear hold hφ hcl hkp hd
                      rw [if_pos (by rfl)]
                      go_simp
                      exact hK _ _ (Only.refl _ _) rfl
                    · intro a W L N hR hold hφ hcl hkp hd K hK
                      have e0 := hold 0 (by kernel_rfl)
                      clear hold hφ hcl hkp hd
                      rw [if_pos (by rfl)]
                      go_simp
                      exact hK _ _ (Only.refl _ _) rfl
                    · intro a W L N hR hold hφ hcl hkp hd K hK
                      have e12 := hold 12 (by kernel_rfl)
                      clear hold hφ hcl hkp hd
                      rw [if_pos (by rfl)]
                      go_simp
                      exact hK _ _ (Only.refl _ _) rfl
                    · intro a W L N hR hold hφ hcl hkp hd K hK
                      have e67 := got hφ (hd 1 (by kernel_rfl)) rfl rfl rfl
                      have e68 := got hφ (hd 2 (by kernel_rfl)) rfl rfl rfl
                      clear hold hφ hcl hkp hd
                      rw [if_pos (by rfl)]
                      go_simp
                      exact hK _ _ (Only.refl _ _) rfl
                    · intro a W L N hR hold hφ hcl hkp hd K hK
                      have e69 := got hφ (hd 3 (by kernel_rfl)) rfl rfl rfl
                      have hcl0 := Hld.out W (Only.plus hdr hR)
                      clear hold hφ hcl hkp hd
                      rw [if_pos (by rfl)]
                      go_simp
                      exact hK _ _ (Only.refl _ _) rfl
                    · intro a W L N hR hold hφ hcl hkp hd K hK
                      have e66 := got hφ (hd 0 (by kernel_rfl)) rfl rfl rfl
                      have e70 := got hφ (hd 4 (by kernel_rfl)) rfl rfl rfl
                      have hW := Only.plus hdr hR
                      clear hold hφ hcl hkp hd
                      rw [if_pos (by rfl)]
                      go_simp
                      refine (HIn1.out W hW).mono ?_
                      rintro e w' ⟨rfl, rfl⟩
                      exact hK _ _ (Only.refl _ _) rfl
                    · intro a W L N hR hold hφ hcl hkp hd K hK
                      have e71 := got hφ (hd 5 (by kernel_rfl)) rfl rfl rfl
                      clear hold hφ hcl hkp hd
                      rw [if_pos (by rfl)]
                      go_simp
                      exact hK _ _ (Only.refl _ _) rfl
                    · intro a W L N hR hold hφ hcl hkp hd K hK
                      have e0 := hold 0 (by kernel_rfl)
                      have e72 := got hφ (hd 6 (by kernel_rfl)) rfl rfl rfl
                      clear hold hφ hcl hkp hd
                      rw [if_pos (by simp [Region.wanted, yielded, e72])]
                      go_simp
                      exact hK _ _ (Only.refl _ _) rfl
                    · intro a W L N hR hold hφ hcl hkp hd K hK
                      have e12 := hold 12 (by kernel_rfl)
                      have e72 := got hφ (hd 6 (by kernel_rfl)) rfl rfl rfl
                      clear hold hφ hcl hkp hd
                      rw [if_pos (by simp [Region.wanted, yielded, e72])]
                      go_simp
                      exact hK _ _ (Only.refl _ _) rfl
                    · intro a W L N hR hold hφ hcl hkp hd K hK
                      have e73 := got hφ (hd 7 (by kernel_rfl)) rfl rfl rfl
                      have e74 := got hφ (hd 8 (by kernel_rfl)) rfl rfl rfl
                      have e72 := got hφ (hd 6 (by kernel_rfl)) rfl rfl rfl
                      clear hold hφ hcl hkp hd
                      rw [if_pos (by simp [Region.wanted, yielded, e72])]
                      go_simp
                      exact hK _ _ (Only.refl _ _) rfl
                    · intro a W L N hR hold hφ hcl hkp hd K hK
                      have e75 := got hφ (hd 9 (by kernel_rfl)) rfl rfl rfl
                      have e72 := got hφ (hd 6 (by kernel_rfl)) rfl rfl rfl
                      have hcl0 := Hld.out W (Only.plus hdr hR)
                      clear hold hφ hcl hkp hd
                      rw [if_pos (by simp [Region.wanted, yielded, e72])]
                      go_simp
                      exact hK _ _ (Only.refl _ _) rfl
                    · intro a W L N hR hold hφ hcl hkp hd K hK
                      have e5 := hold 5 (by kernel_rfl)
                      have e72 := got hφ (hd 6 (by kernel_rfl)) rfl rfl rfl
                      clear hold hφ hcl hkp hd
                      rw [if_pos (by simp [Region.wanted, yielded, e72])]
                      go_simp
                      exact hK _ _ (Only.refl _ _) rfl
                    · intro a W L N hR hold hφ hcl hkp hd K hK
                      have e76 := got hφ (hd 10 (by kernel_rfl)) rfl rfl rfl
                      have e77 := got hφ (hd 11 (by kernel_rfl)) rfl rfl rfl
                      have e72 := got hφ (hd 6 (by kernel_rfl)) rfl rfl rfl
                      have hW := Only.plus hdr hR
                      clear hold hφ hcl hkp hd
                      rw [if_pos (by simp [Region.wanted, yielded, e72])]
                      go_simp
                      refine (HLed.out W hW).mono ?_
                      rintro e w' ⟨v', L, rfl, h1, h2, h3, hO'⟩
                      exact hK _ _ hO' ⟨L, owns_base h1 (Nat.zero_le _), h2, by omega⟩
                    · intro a W L N hR hold hφ hcl hkp hd K hK
                      have e0 := hold 0 (by kernel_rfl)
                      have e72 := got hφ (hd 6 (by kernel_rfl)) rfl rfl rfl
                      clear hold hφ hcl hkp hd
                      rw [if_pos (by simp [Region.wanted, yielded, e72])]
                      go_simp
                      exact hK _ _ (Only.refl _ _) rfl
                    · intro a W L N hR hold hφ hcl hkp hd K hK
                      have e9 := hold 9 (by kernel_rfl)
                      have e72 := got hφ (hd 6 (by kernel_rfl)) rfl rfl rfl
                      clear hold hφ hcl hkp hd
                      rw [if_pos (by simp [Region.wanted, yielded, e72])]
                      go_simp
                      exact hK _ _ (Only.refl _ _) rfl
                    · intro a W L N hR hold hφ hcl hkp hd K hK
                      have e79 := got hφ (hd 13 (by kernel_rfl)) rfl rfl rfl
                      have e80 := got hφ (hd 14 (by kernel_rfl)) rfl rfl rfl
                      have e72 := got hφ (hd 6 (by kernel_rfl)) rfl rfl rfl
                      clear hold hφ hcl hkp hd
                      rw [if_pos (by simp [Region.wanted, yielded, e72])]
                      go_simp
                      exact hK _ _ (Only.refl _ _) rfl
                    · intro a W L N hR hold hφ hcl hkp hd K hK
                      have e81 := got hφ (hd 15 (by kernel_rfl)) rfl rfl rfl
                      have e72 := got hφ (hd 6 (by kernel_rfl)) rfl rfl rfl
                      have hcl0 := Hld.out W (Only.plus hdr hR)
                      clear hold hφ hcl hkp hd
                      rw [if_pos (by simp [Region.wanted, yielded, e72])]
                      go_simp
                      exact hK _ _ (Only.refl _ _) rfl
                    · intro a W L N hR hold hφ hcl hkp hd K hK
                      have e82 := got hφ (hd 16 (by kernel_rfl)) rfl rfl rfl
                      have e72 := got hφ (hd 6 (by kernel_rfl)) rfl rfl rfl
                      obtain ⟨u78, e78, p78⟩ := gotP hφ (hd 12 (by kernel_rfl)) rfl rfl rfl
                      clear hold hφ hcl hkp hd
                      rw [if_pos (by simp [Region.wanted, yielded, e72])]
                      go_simp
                      refine (HIn2.out W u78 p78).mono ?_
                      rintro e w' ⟨rfl, rfl⟩
                      exact hK _ _ (Only.refl _ _) rfl
                    · intro a W L N hR hold hφ hcl hkp hd K hK
                      have e72 := got hφ (hd 6 (by kernel_rfl)) rfl rfl rfl
                      have e83 := got hφ (hd 17 (by kernel_rfl)) rfl rfl rfl
                      clear hold hφ hcl hkp hd
                      rw [if_pos (by rfl)]
                      go_simp
                      exact hK _ _ (Only.refl _ _) rfl
                  · intro us W hO' hus
                    have p84 : us 18 = .bool b2 := hus 18 _ 84 (by omega) rfl rfl
                    clear hus
                    simp only [List.take_succ_cons, List.take_zero, List.drop_succ_cons, List.drop_zero, fillAct, Act.put, List.setIfInBounds_toArray, List.set_cons_zero, List.set_cons_succ, Nat.reduceAdd, p84]
                    clear p84
                    have HOW := Lib.hid (Only.plus hdr hO')
                    clear hO'
                    cases b2 with
                    | false =>
                      have Hno : Hid (¬ SmN (allE N E) x y) := Lib.hid (fun h => by have := Hb2.out.2 h.2; cases this)
                      go_wp2_with fail
                      go_roundw
                      case rel => exact ⟨k + 1, by go_num, by omega, by rw [partK_no Hy.out Hno.out]; exact OwnN.off HwD.out HOW.out (by simp), by rw [partK_no Hy.out Hno.out]; exact ⟨OwnN.off HwP.out.1 HOW.out (by simp), HwP.out.2⟩, OwnN.off HwT.out HOW.out (by simp), HTD.out, HwO.out.keep HOW.out, HO4.out.plus HOW.out⟩
                      case measure => simp [intOf]; omega
                    | true =>
                      have Hys : Hid (SmN (allE N E) x y) := Lib.hid ⟨HR1.out, Hb2.out.1 rfl⟩
                      have dW := (Hld.out W HOW.out).1
                      have HwDW := Lib.hid (OwnN.off HwD.out HOW.out (by simp))
                      have HwPW : Hid (PartI W w2.heap.size u10 (partK N (allE N E) x k) u8) := Lib.hid ⟨OwnN.off HwP.out.1 HOW.out (by simp), HwP.out.2⟩
                      have HwTW := Lib.hid (OwnN.off HwT.out HOW.out (by simp))
                      have HwOW := Lib.hid (HwO.out.keep HOW.out)
                      have HO5 := Lib.hid (HO4.out.plus HOW.out)
                      have HWi := Lib.hid (with8_any W u10 (partK N (allE N E) x k) y HwPW.out.nilOr (partK_lt Hs.out Hy.out) (by omega))
                      have hgW : gN < W.heap.size := Nat.lt_of_lt_of_le hgN (HOw.out.plus HO5.out).size
                      go_wp2_with fail
                      refine (HWi.out).mono ?_
                      rintro e w4 ⟨vP, rfl, hP, hO6⟩
                      have dW4 := (Hld.out w4 (HOW.out.plus hO6)).1
                      have hgW4 : gN < w4.heap.size := Nat.lt_of_lt_of_le hgW hO6.size
                      have hOl : Only [] w4 (w4.alloc (.cells #[.string ⟨y.toArray⟩] 9)) := (Only.refl _ _).alloc _
                      have HOl := Lib.hid hOl
                      have HO64 := Lib.hid (hO6.plus hOl)
                      have HszB : Hid (w2.heap.size ≤ (w4.alloc (.cells #[.string ⟨y.toArray⟩] 9)).heap.size) := Lib.hid (HO5.out.plus (hO6.plus hOl)).size
                      have HP := Lib.hid hP
                      have hsW4 : W.heap.size ≤ w4.heap.size := hO6.size
                      have HsW4 := Lib.hid hsW4
                      clear hP hO6 hOl dW hsW4
                      go_wp2_with
                       (at_builtin
                        refine wpList_append_18 rfl _ _ 24 9 rfl Try.underlying24 (.string ⟨#[]⟩) 16 infoT8 rfl (by decide) w2.heap.size u8 (D ++ partK N (allE N E) x k).length ((D ++ partK N (allE N E) x k).map encStr) rfl (owns_off HwDW.out HO64.out (by simp)) w4.heap.size 1 (.string ⟨y.toArray⟩) rfl ((IsBlk.made w4 _).cell 0) rfl (by omega) HszB.out ?_
                        intro v' w5 k1 k2 k3)
                      have hPD : ∀ b, vP.ownBlock = some b → u8.ownBlock ≠ some b := fun b hb hb2 => by
                        have h1 := (World.ownsRow.lt HP.out b hb).1
                        have h2 := (World.ownsRow.lt HwDW.out b hb2).2
                        omega
                      have hP4 : OwnN (w4.alloc (.cells #[.string ⟨y.toArray⟩] 9)) w2.heap.size vP (partK N (allE N E) x k ++ [y]) := OwnN.off (owns_base HP.out HO5.out.size) HOl.out (by simp)
                      have hT4 : OwnN (w4.alloc (.cells #[.string ⟨y.toArray⟩] 9)) w2.heap.size vT L1 := OwnN.off HwTW.out HO64.out (by simp)
                      have hD4 : OwnN (w4.alloc (.cells #[.string ⟨y.toArray⟩] 9)) w2.heap.size u8 (D ++ partK N (allE N E) x k) := OwnN.off HwDW.out HO64.out (by simp)
                      have HhPD := Lib.hid hPD
                      have HhP4 := Lib.hid hP4
                      have HhT4 := Lib.hid hT4
                      have HhD4 := Lib.hid hD4
                      have Hk1 := Lib.hid k1
                      have Hk2 := Lib.hid k2
                      have Hk3 := Lib.hid k3
                      clear hPD hP4 hT4 hD4 k1 k2 k3
                      go_roundw
                      case rel => exact ⟨k + 1, by go_num, by omega, by
                          rw [partK_yes Hy.out Hys.out, ← List.append_assoc]; unfold OwnN; rw [List.length_append, List.map_append]; exact Hk1.out, by
                          rw [partK_yes Hy.out Hys.out]
                          exact ⟨OwnN.off HhP4.out Hk2.out (fun b hb hm => HhPD.out b hb (mem_ownL.1 hm)), fun h => absurd h (by simp), apart_next HhP4.out HhPD.out (Nat.le_refl _) Hk3.out⟩, OwnN.off HhT4.out Hk2.out (fun b hb hm => HTD.out b hb (mem_ownL.1 hm)), apart_next HhT4.out HTD.out (Nat.le_refl _) Hk3.out, OutN.done (HwOW.out.keep HO64.out) HhD4.out Hk2.out Hk3.out, (HO5.out.plus HO64.out).then Hk2.out [] (by simp) (fun b hb => .inr (World.ownsRow.lt HhD4.out b (mem_ownL.1 hb)).1)⟩
                      case measure => simp [intOf]; omega
              · obtain rfl : k = N.length := by omega
                have hkk : ¬ (N.length : Int) < (N.length : Int) := by omega
                obtain ⟨cs, hc1, hc2⟩ := HwO.out
                have HwPo := HwP.out.1
                have HPap := Lib.hid HwP.out.2.2
                obtain ⟨aP, cP, rfl⟩ := HwPo.slice
                have HP := Lib.hid HwPo
                have Hc1 := Lib.hid hc1
                have Hc2 := Lib.hid hc2
                have hol := outR_len N (allE N E) i
                have hOl : Only [] wr (wr.alloc (.cells #[.slice aP (partK N (allE N E) x N.length).length cP] 24)) := (Only.refl _ _).alloc _
                have HOl := Lib.hid hOl
                have HszB : Hid (w2.heap.size ≤ (wr.alloc (.cells #[.slice aP (partK N (allE N E) x N.length).length cP] 24)).heap.size) := Lib.hid (HO4.out.plus hOl).size
                clear HwP HwPo hc1 hc2 hOl
                go_wp2_with
                 (at_builtin
                  refine wpList_append_18 rfl _ _ 30 24 rfl Try.underlying30 (.slice none 0 0) 24 infoSS8 rfl (by decide) w2.heap.size u7 (outR N (allE N E) i).length cs rfl (owns_off Hc1.out HOl.out (by simp)) wr.heap.size 1 (.slice aP (partK N (allE N E) x N.length).length cP) rfl ((IsBlk.made wr _).cell 0) rfl (by omega) HszB.out ?_
                  intro v' w5 k1 k2 k3)
                have Hk1 := Lib.hid k1
                have Hk2 := Lib.hid k2
                clear k1 k2 k3
                have HwD4 : Hid (OwnN (wr.alloc (.cells #[.slice aP (partK N (allE N E) x N.length).length cP] 24)) w2.heap.size u8 (D ++ partK N (allE N E) x N.length)) := Lib.hid (OwnN.off HwD.out HOl.out (by simp))
                have Hc4 := Lib.hid (owns_off Hc1.out HOl.out (by simp))
                have HP4 := Lib.hid (OwnN.off HP.out HOl.out (by simp))
                rw [partK_all] at *
                go_roundw
                case rel => exact ⟨i + 1, D ++ partR N (allE N E) x, by go_num, hlt, OwnN.off HwD4.out Hk2.out (fun b hb hm => nam_types HwD4.out Hc4.out b hb (mem_ownL.1 hm)), Hgo.out.2, by
                    rw [outR_yes Hgo.out.1, ← Hx.out]
                    exact OutN.snoc Hc4.out (fun j q hq => by
                      obtain ⟨u', g1, g2, g3⟩ := Hc2.out j q hq
                      exact ⟨u', g1, g2.off HOl.out (by simp), g3⟩) Hk1.out Hk2.out HP4.out HPap.out, (HO4.out.plus HOl.out).then Hk2.out [] (by simp) (fun b hb => .inr (World.ownsRow.lt Hc1.out b (mem_ownL.1 hb)).1)⟩
                case measure => simp [intOf]; omega
        · obtain rfl : i = N.length := by omega
          have hii : ¬ (N.length : Int) < (N.length : Int) := by omega
          go_wp2
          go_ret
          exact ⟨_, rfl, rowsN_base Hout.out.rows hws, HOw.out.plus HO2.out⟩

end Go.Proofs.Ytgkddbpfjbgelaa
