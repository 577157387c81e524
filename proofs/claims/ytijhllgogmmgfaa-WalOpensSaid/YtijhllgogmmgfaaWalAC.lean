/-
  What Open finds of any sectors; the laws' helpers Few and state.
-/
import Derived.Test.YtijhllgogmmgfaaWalAB
import Derived.Test.YtijhllgogmmgfaaWalM
import Derived.Test.YtijhllgogmmgfaaPlaysW
namespace Go.Proofs.Ytijhllgogmmgfaa
set_option maxRecDepth 100000
set_option linter.unusedVariables false
open Go.RowKit

theorem rec_size {ps : List PartM} {g r : Int} {b : List UInt8} {k : Nat} (h : recM ps g r = some (b, k)) : 1 ≤ k ∧ k ≤ ps.length := by
  cases hps : ps with
  | nil => rw [hps] at h; cases h
  | cons p0 r' =>
    have h0 : ps[0]? = some p0 := by rw [hps]; rfl
    rw [← hps]
    by_cases hc : p0.g = g ∧ p0.r = r ∧ p0.o ≤ (ps.length : Int)
    · rw [recM_yes h0 hc] at h
      cases hj : joinB (ps.take p0.o.toNat) with
      | none => rw [hj] at h; cases h
      | some b' =>
        rw [hj] at h
        simp at h
        have hpos := join_pos hj
        rw [List.length_take] at hpos
        obtain ⟨_, rfl⟩ := h
        omega
    · rw [recM_no h0 hc] at h; cases h

theorem follow_bounds (ps : List PartM) (gen : Int) : ∀ (f next : Nat) (seq : Int), next ≤ ps.length → next ≤ (followM ps gen f next seq).2.1 ∧ (followM ps gen f next seq).2.1 ≤ ps.length ∧ seq ≤ (followM ps gen f next seq).2.2 ∧ (followM ps gen f next seq).2.2 + next ≤ seq + (followM ps gen f next seq).2.1
  | 0, next, seq, h => ⟨Nat.le_refl _, h, Int.le_refl _, Int.le_refl _⟩
  | f + 1, next, seq, h => by
    unfold followM
    cases hr : recM (ps.drop next) gen seq with
    | none => exact ⟨Nat.le_refl _, h, Int.le_refl _, Int.le_refl _⟩
    | some x =>
      obtain ⟨b, k⟩ := x
      have hk := rec_size hr
      rw [List.length_drop] at hk
      have ih := follow_bounds ps gen f (next + k) (seq + 1) (by omega)
      simp only
      generalize followM ps gen f (next + k) (seq + 1) = y at ih
      omega

/-- Where a log stands that was opened, whatever the sectors are. -/
structure LSok (L : LS) : Prop where
  half : L.half ≤ 1
  next : L.next ≤ L.size
  may : L.gen ≠ 0 → mayB L.gen L.seq = true
  seq0 : 0 ≤ L.seq
  seq1 : L.seq ≤ 65535
  top0 : 0 ≤ L.top
  top1 : L.top ≤ 4294967295

theorem openL_ok (S : Secs) (size : Nat) (hs : size ≤ 128) : LSok (openL S size) := by
  have a0 := halfP_sane S 0 size
  have a1 := halfP_sane S size size
  have t1 := topM_bounds a0 (t := 0) (by omega) (by omega)
  have t2 := topM_bounds a1 t1.1 t1.2
  have b0 := beginM_nonneg a0
  have b1 := beginM_nonneg a1
  have hc : (chooseM (halfP S 0 size) (halfP S size size)).2 ≤ 1 ∧ 0 ≤ (chooseM (halfP S 0 size) (halfP S size size)).1 ∧ (chooseM (halfP S 0 size) (halfP S size size)).1 ≤ 4294967295 := by
    unfold chooseM; split
    · exact ⟨Nat.le_refl _, b1.1, b1.2⟩
    · exact ⟨Nat.zero_le _, b0.1, b0.2⟩
  have hf : (foundM S size).2.1 ≤ size ∧ 0 ≤ (foundM S size).2.2 ∧ (foundM S size).2.2 ≤ size := by
    unfold foundM
    simp only
    split
    · exact ⟨Nat.zero_le _, Int.le_refl _, by show (0 : Int) ≤ _; omega⟩
    · have := follow_bounds (halfP S ((chooseM (halfP S 0 size) (halfP S size size)).2 * size) size) (chooseM (halfP S 0 size) (halfP S size size)).1 (size + 1) 0 0 (Nat.zero_le _)
      rw [length_halfP] at this
      omega
  refine ⟨hc.1, hf.1, fun hg => mayB_iff.2 ⟨?_, hc.2.2, hf.2.1, ?_⟩, hf.2.1, ?_, t2.1, t2.2⟩
  · have h1 := hc.2.1
    have : (openL S size).gen = (chooseM (halfP S 0 size) (halfP S size size)).1 := rfl
    omega
  · show (foundM S size).2.2 ≤ _; omega
  · show (foundM S size).2.2 ≤ _; omega

theorem app_ok {L : LS} {D : DS} {b : List UInt8} (h : LSok L) : (appM L D b).1.half ≤ 1 ∧ 0 ≤ (appM L D b).1.top ∧ (appM L D b).1.top ≤ 4294967295 ∧ (appM L D b).1.size = L.size := by
  unfold appM
  split
  · exact ⟨h.half, h.top0, h.top1, rfl⟩
  · simp only
    split
    · exact ⟨h.half, h.top0, h.top1, rfl⟩
    · exact ⟨h.half, h.top0, h.top1, rfl⟩
theorem wr_calm : ∀ (bs : List (List UInt8)) (D : DS) (x : Nat) (K : Int), D.calm K → (wrM D x bs).1.calm (K + bs.length + 1)
  | [], D, x, K, h => by simpa [wrM] using flushR_calm h
  | b :: l, D, x, K, h => by
    have h1 := calm_write (x := (x : Int)) (l := b) h
    have h2 := wr_calm l _ (x + 1) _ h1
    unfold wrM
    split
    · refine ⟨h2.1, h2.2.1, h2.2.2.1, ?_⟩
      have := h2.2.2.2
      simp only [List.length_cons]; push_cast; omega
    · refine ⟨h1.1, h1.2.1, h1.2.2.1, ?_⟩
      have := h1.2.2.2
      simp only [List.length_cons]; push_cast; omega
theorem wr_nn : ∀ (bs : List (List UInt8)) (D : DS) (x : Nat), (wrM D x bs).1.n = D.n
  | [], D, x => flushR_n D
  | b :: l, D, x => by
    unfold wrM; split
    · rw [wr_nn l]; exact writeR_n D x b
    · exact writeR_n D x b
theorem calm_le {D : DS} {K J : Int} (h : D.calm K) (hj : K ≤ J) : D.calm J := ⟨h.1, h.2.1, h.2.2.1, by have := h.2.2.2; omega⟩
theorem app_disk {L : LS} {D : DS} {b : List UInt8} {K : Int} (h : D.calm K) (hb : partsN b.length ≤ 255) : (appM L D b).2.1.calm (K + 256) ∧ (appM L D b).2.1.n = D.n := by
  unfold appM
  split
  · exact ⟨calm_le h (by omega), rfl⟩
  · have h1 := wr_calm (secsB L.gen L.seq b) D (L.half * L.size + L.next) K h
    rw [length_secsB] at h1
    exact ⟨calm_le h1 (by omega), wr_nn _ _ _⟩
theorem fresh_disk {L : LS} {D : DS} {b : List UInt8} {K : Int} (h : D.calm K) (hb : partsN b.length ≤ 255) : (freshM L D b).2.1.calm (K + 256) ∧ (freshM L D b).2.1.n = D.n := by
  unfold freshM
  split
  · exact ⟨calm_le h (by omega), rfl⟩
  · have h1 := wr_calm (secsB (L.top + 1) 0 b) D (otherM L * L.size) K h
    rw [length_secsB] at h1
    exact ⟨calm_le h1 (by omega), wr_nn _ _ _⟩

def FewTo (w : World) (L : List CallR) (e : Ending) (w' : World) : Prop := ∃ b : Bool, e = .returned (.bool b) ∧ w = w' ∧ (b = true → ∀ (i : Nat) (c : CallR), L[i]? = some c → c.dlen ≤ 100)

set_option maxHeartbeats 1000000 in
theorem few_any (w : World) (a : Option Addr) (len cap : Nat) (L : List CallR) (h : CallsAt w a len L) : Calls Try.prog 5 #[.slice a len cap] w (FewTo w L) := by
  have hml := h.2.1
  unfold maxLen at hml
  have H := Lib.hid h
  clear h
  go_enter Try.func5, Try.ntmps5
  go_wp2_with fail
  go_loop [3] (fun i => ∃ k : Nat, k ≤ len ∧ i = .int .i64 k ∧ Hid (∀ (j : Nat) (c : CallR), j < k → L[j]? = some c → c.dlen ≤ 100)) (fun i => len - (intOf i).toNat)
  case atStart => exact ⟨0, Nat.zero_le _, rfl, Lib.hid (fun j c hj => by omega)⟩
  case round =>
    obtain ⟨k, hk, rfl, hall⟩ := hrel
    by_cases hlt : k < len
    · have hlti : (k : Int) < (len : Int) := by omega
      obtain ⟨b, o, c, rfl, hLc, hca, hbl, _⟩ := H.out.at_ (Only.refl [] w) (by simp) hlt
      have hc3 := hca.c3
      have hsl := hca.src.1
      have HL : Hid (∀ c', L[k]? = some c' → c'.dlen = c.dlen) := Lib.hid (fun c' h' => by rw [hLc] at h'; injection h' with h'; rw [h'])
      clear hca hLc
      generalize c.dlen = dl at *
      by_cases h100 : (100 : Int) < (dl : Int)
      · clear hsl
        go_wp2
        go_ret
        exact ⟨_, rfl, rfl, fun h => by cases h⟩
      · clear hsl
        go_wp2
        go_round
        case rel =>
          refine ⟨k + 1, by omega, by go_num, Lib.hid (fun j c' hj hc' => ?_)⟩
          by_cases e : j = k
          · subst e; have := HL.out c' hc'; omega
          · exact hall.out j c' (by omega) hc'
        case measure => simp [intOf]; omega
    · have hge : ¬ (k : Int) < (len : Int) := by omega
      go_wp2
      go_ret
      refine ⟨_, rfl, rfl, fun _ i c hi => hall.out i c ?_ hi⟩
      have h1 := H.out.1
      have h2 := (List.getElem?_eq_some_iff.1 hi).1
      omega

set_option maxHeartbeats 1000000 in
theorem state_same (w : World) (lp pd lq q : Nat) (L : LS) (h : LogAt w lp pd L) (hr : RLogAt w lq q L) :
    Calls Try.prog 11 #[.pointer (some ⟨lp, 0, none⟩), .pointer (some ⟨lq, 0, none⟩)] w fun e w' => e = .returned (.bool true) ∧ Only [] w w' := by
  have H := Lib.hid h
  have Hr := Lib.hid hr
  clear h hr
  go_enter Try.func11, Try.ntmps11
  go_wp2_with fail
  refine (state_any _ lp pd L H.out).mono ?_
  rintro e w1 ⟨rfl, hO1⟩
  have HO1 := Lib.hid hO1
  clear hO1
  go_wp2_with fail
  refine (rstate_any _ lq q L (Hr.out.more HO1.out)).mono ?_
  rintro e w2 ⟨rfl, hO2⟩
  have HO2 := Lib.hid hO2
  clear hO2
  go_wp2
  go_ret
  exact ⟨rfl, HO1.out.plus HO2.out⟩

end Go.Proofs.Ytijhllgogmmgfaa
