/-
  The calls of a log on a disk that lives, in few words; the laws' helpers within, known, Both.
-/
import Derived.Test.YtfampoblcielpaaGreatWalJ
namespace Go.Proofs.YtfampoblcielpaaGreat
set_option maxRecDepth 100000
set_option linter.unusedVariables false
open Go.RowKit

/-! ### A disk and its log -/

/-- A disk that lives, and a log on it that is sound. -/
structure WL (w : World) (lp pd bl bm : Nat) (D : DS) (L : LS) (rs : List (List UInt8)) (k : Int) : Prop where
  disk : DiskAt w pd bl bm D
  log : LogAt w lp pd L
  live : Live D (2 * L.size) k
  ok : LogOk D.now L rs
  ne : lp ∉ [pd, bl, bm]

theorem WL.size {w : World} {lp pd bl bm : Nat} {D : DS} {L : LS} {rs : List (List UInt8)} {k : Int} (h : WL w lp pd bl bm D L rs k) : L.size ≤ 128 := by have := h.disk.small; rw [h.live.n] at this; omega
theorem WL.more {w w' : World} {lp pd bl bm : Nat} {D : DS} {L : LS} {rs : List (List UInt8)} {k : Int} (h : WL w lp pd bl bm D L rs k) (hO : Only [] w w') : WL w' lp pd bl bm D L rs k := ⟨h.disk.more hO, h.log.more hO, h.live, h.ok, h.ne⟩
theorem WL.seqB {w : World} {lp pd bl bm : Nat} {D : DS} {L : LS} {rs : List (List UInt8)} {k : Int} (h : WL w lp pd bl bm D L rs k) : rs.length ≤ 128 := by
  have hrl : ∀ (l : List (List UInt8)) (j : Int), l.length ≤ (rowsP L.gen j l).length := by
    intro l
    induction l with
    | nil => intro j; simp [rowsP]
    | cons c l ih => intro j; have := ih (j + 1); have := partsN_pos c.length; simp only [rowsP, List.length_append, length_cutP, List.length_cons]; omega
  have h1 := hrl rs 0
  have h2 := h.ok.next
  have h3 := h.ok.fit
  have h4 := h.size
  omega

/-- A new disk's log. -/
structure WN (w : World) (lp pd bl bm : Nat) (n : Nat) : Prop where
  disk : DiskAt w pd bl bm (newDS (2 * n))
  log : LogAt w lp pd ⟨n, 0, 0, 0, 0, 0⟩
  ne : lp ∉ [pd, bl, bm]

theorem WN.more {w w' : World} {lp pd bl bm n : Nat} (h : WN w lp pd bl bm n) (hO : Only [] w w') : WN w' lp pd bl bm n := ⟨h.disk.more hO, h.log.more hO, h.ne⟩

theorem opened_new (w : World) (pd bl bm n : Nat) (h : DiskAt w pd bl bm (newDS (2 * n))) :
    Calls Tryz.prog 18 #[.pointer (some ⟨pd, 0, none⟩)] w fun e w' => ∃ lp a cap, e = .returned (.tuple #[.pointer (some ⟨lp, 0, none⟩), .slice a 0 cap, .int .i64 0]) ∧ WN w' lp pd bl bm n ∧ w.heap.size ≤ lp ∧ Only [] w w' := by
  refine (open_any w pd bl bm _ h rfl).mono ?_
  rintro e w' ⟨lp, a, cap, rfl, hL, hD, -, hlp, hO⟩
  have e1 : (newDS (2 * n)).n / 2 = n := by show 2 * n / 2 = n; omega
  rw [e1, (open_new _ n).1] at hL
  have h4 := h.plt
  have h5 := h.blt
  have h6 := h.mlt
  refine ⟨lp, a, cap, ?_, ⟨hD, hL, by simp; omega⟩, hlp, hO⟩
  rw [e1, (open_new _ n).2]; rfl

/-- A log opened again is as it was. -/
theorem opened (w : World) (lp pd bl bm : Nat) (D : DS) (L : LS) (rs : List (List UInt8)) (k : Int) (h : WL w lp pd bl bm D L rs k) :
    Calls Tryz.prog 18 #[.pointer (some ⟨pd, 0, none⟩)] w fun e w' => ∃ lp' a cap, e = .returned (.tuple #[.pointer (some ⟨lp', 0, none⟩), .slice a rs.length cap, .int .i64 0]) ∧ WL w' lp' pd bl bm D L rs k ∧ (BytesAt w' a rs.length rs ∧ rs.length ≤ cap) ∧ w.heap.size ≤ lp' ∧ Only [] w w' := by
  refine (open_any w pd bl bm D h.disk h.live.dead).mono ?_
  rintro e w' ⟨lp', a, cap, rfl, hL, hD, hB, hlp, hO⟩
  have e1 : D.n / 2 = L.size := by rw [h.live.n]; omega
  rw [e1, h.ok.opens.1] at hL
  rw [e1, h.ok.opens.2] at hB
  have h4 := h.disk.plt
  have h5 := h.disk.blt
  have h6 := h.disk.mlt
  refine ⟨lp', a, cap, ?_, ⟨hD, hL, h.live, h.ok, by simp; omega⟩, hB, hlp, hO⟩
  rw [e1, h.ok.opens.2]

/-- Fresh where a log is. -/
theorem freshened (w : World) (lp pd bl bm : Nat) (D : DS) (L : LS) (rs : List (List UInt8)) (k : Int) (a : Option Addr) (cap : Nat) (b : List UInt8) (h : WL w lp pd bl bm D L rs k) (hs : Src w a b.length b) (hb : partsN b.length ≤ 255) (hsz : partsN b.length ≤ L.size) (hg : L.gen < 4294967295) (hk0 : 0 ≤ k) (hk : k < 100000) :
    Calls Tryz.prog 20 #[.pointer (some ⟨lp, 0, none⟩), .slice a b.length cap] w fun e w' => e = .returned (.int .i64 0) ∧ ∃ D', WL w' lp pd bl bm D' { L with top := L.gen + 1, gen := L.gen + 1, half := 1 - L.half, next := partsN b.length, seq := 1 } [b] (k + partsN b.length + 1) ∧ Only [lp, pd, bl, bm] w w' := by
  have hgp := h.ok.gen_pos
  have htop := h.ok.top
  have hsz' := h.size
  refine (fresh_any w lp pd bl bm L D k a cap b h.log h.disk (h.live.calm hk0) hk hs hb h.ne h.ok.half (by omega) (by omega) (by omega)).mono ?_
  obtain ⟨e1, e2⟩ := fresh_live (b := b) h.live h.ok.half h.ok.tops (by omega) (by omega) hb hsz
  rw [e1]
  have e3 : otherM L = 1 - L.half := by unfold otherM; rw [if_neg (by omega)]
  rw [e3, htop] at e2 ⊢
  rintro e w' ⟨rfl, hL, hD, hO⟩
  exact ⟨rfl, _, ⟨hD, hL, by have := h.live.wrote ((1 - L.half) * L.size) (secsB (L.gen + 1) 0 b); rw [length_secsB] at this; exact this, e2, h.ne⟩, hO⟩

/-- Fresh of a new disk. -/
theorem freshened_new (w : World) (lp pd bl bm n : Nat) (a : Option Addr) (cap : Nat) (b : List UInt8) (h : WN w lp pd bl bm n) (hs : Src w a b.length b) (hb : partsN b.length ≤ 255) (hsz : partsN b.length ≤ n) :
    Calls Tryz.prog 20 #[.pointer (some ⟨lp, 0, none⟩), .slice a b.length cap] w fun e w' => e = .returned (.int .i64 0) ∧ ∃ D', WL w' lp pd bl bm D' ⟨n, 1, 1, 0, partsN b.length, 1⟩ [b] (partsN b.length + 1) ∧ Only [lp, pd, bl, bm] w w' := by
  have hn := h.disk.small
  have hn' : 2 * n ≤ 256 := hn
  refine (fresh_any w lp pd bl bm _ _ 0 a cap b h.log h.disk ((new_live (2 * n)).calm (by omega)) (by omega) hs hb h.ne (by simp) (by show n ≤ 1000; omega) (by simp) (by simp)).mono ?_
  obtain ⟨e1, e2⟩ := fresh_live (D := newDS (2 * n)) (L := ⟨n, 0, 0, 0, 0, 0⟩) (b := b) (new_live (2 * n)) (by simp) (fun i _ => by rw [new_now, secP_zeros]; simp [noPart]) (by simp) (by simp) hb hsz
  rw [e1]
  rintro e w' ⟨rfl, hL, hD, hO⟩
  refine ⟨rfl, _, ⟨hD, hL, ?_, e2, h.ne⟩, hO⟩
  have := (new_live (2 * n)).wrote 0 (secsB (0 + 1) 0 b)
  rw [length_secsB, Int.zero_add] at this
  simpa [otherM] using this

/-- What does not fit at all. -/
theorem fresh_full (w : World) (lp pd bl bm n : Nat) (a : Option Addr) (cap : Nat) (b : List UInt8) (h : WN w lp pd bl bm n) (hs : Src w a b.length b) (hb : partsN b.length ≤ 255) (hsz : n < partsN b.length) :
    Calls Tryz.prog 20 #[.pointer (some ⟨lp, 0, none⟩), .slice a b.length cap] w fun e w' => e = .returned (.int .i64 4) ∧ WN w' lp pd bl bm n ∧ Only [lp, pd, bl, bm] w w' := by
  have hn := h.disk.small
  have hn' : 2 * n ≤ 256 := hn
  refine (fresh_any w lp pd bl bm _ _ 0 a cap b h.log h.disk ((new_live (2 * n)).calm (by omega)) (by omega) hs hb h.ne (by simp) (by show n ≤ 1000; omega) (by simp) (by simp)).mono ?_
  have e1 : freshM ⟨n, 0, 0, 0, 0, 0⟩ (newDS (2 * n)) b = (⟨n, 0, 0, 0, 0, 0⟩, newDS (2 * n), 4) := by unfold freshM; rw [if_pos (.inl hsz)]
  rw [e1]
  rintro e w' ⟨rfl, hL, hD, hO⟩
  exact ⟨rfl, ⟨hD, hL, h.ne⟩, hO⟩

/-- Append where it fits, and where it does not. -/
theorem appended (w : World) (lp pd bl bm : Nat) (D : DS) (L : LS) (rs : List (List UInt8)) (k : Int) (a : Option Addr) (cap : Nat) (b : List UInt8) (h : WL w lp pd bl bm D L rs k) (hs : Src w a b.length b) (hb : partsN b.length ≤ 255) (hk0 : 0 ≤ k) (hk : k < 100000) :
    Calls Tryz.prog 43 #[.pointer (some ⟨lp, 0, none⟩), .slice a b.length cap] w fun e w' => e = .returned (.tuple #[.bool (decide (L.next + partsN b.length ≤ L.size)), .int .i64 0]) ∧ Only [lp, pd, bl, bm] w w' ∧
      if L.next + partsN b.length ≤ L.size then ∃ D', WL w' lp pd bl bm D' { L with next := L.next + partsN b.length, seq := L.seq + 1 } (rs ++ [b]) (k + partsN b.length + 1) else WL w' lp pd bl bm D L rs k := by
  have hgp := h.ok.gen_pos
  have hsz' := h.size
  have hsq := h.seqB
  have hfit := h.ok.fit
  have hseq := h.ok.seq
  refine (append_any w lp pd bl bm L D k a cap b h.log h.disk (h.live.calm hk0) hk hs hb (fun _ => mayB_iff.2 ⟨by omega, by omega, by omega, by omega⟩) h.ne h.ok.half (by omega) (by omega)).mono ?_
  by_cases hf : L.next + partsN b.length ≤ L.size
  · obtain ⟨e1, e2⟩ := append_live (b := b) h.live h.ok (by omega) hb hf
    rw [e1, decide_eq_true hf]
    rintro e w' ⟨rfl, hL, hD, hO⟩
    refine ⟨rfl, hO, ?_⟩
    rw [if_pos hf]
    exact ⟨_, hD, hL, by have := h.live.wrote (L.half * L.size + L.next) (secsB L.gen L.seq b); rw [length_secsB] at this; exact this, e2, h.ne⟩
  · rw [append_full (by omega), decide_eq_false hf]
    rintro e w' ⟨rfl, hL, hD, hO⟩
    refine ⟨rfl, hO, ?_⟩
    rw [if_neg hf]
    exact ⟨hD, hL, h.live, h.ok, h.ne⟩

theorem app_no (w : World) (lp pd bl bm : Nat) (D : DS) (L : LS) (rs : List (List UInt8)) (k : Int) (a : Option Addr) (cap : Nat) (b : List UInt8) (h : WL w lp pd bl bm D L rs k) (hs : Src w a b.length b) (hb : partsN b.length ≤ 255) (hk0 : 0 ≤ k) (hk : k < 100000) (hf : L.size < L.next + partsN b.length) :
    Calls Tryz.prog 43 #[.pointer (some ⟨lp, 0, none⟩), .slice a b.length cap] w fun e w' => e = .returned (.tuple #[.bool false, .int .i64 0]) ∧ WL w' lp pd bl bm D L rs k ∧ Only [lp, pd, bl, bm] w w' := by
  refine (appended w lp pd bl bm D L rs k a cap b h hs hb hk0 hk).mono ?_
  rintro e w' ⟨rfl, hO, hx⟩
  rw [if_neg (by omega)] at hx
  exact ⟨by rw [decide_eq_false (by omega)], hx, hO⟩
theorem app_yes (w : World) (lp pd bl bm : Nat) (D : DS) (L : LS) (rs : List (List UInt8)) (k : Int) (a : Option Addr) (cap : Nat) (b : List UInt8) (h : WL w lp pd bl bm D L rs k) (hs : Src w a b.length b) (hb : partsN b.length ≤ 255) (hk0 : 0 ≤ k) (hk : k < 100000) (hf : L.next + partsN b.length ≤ L.size) :
    Calls Tryz.prog 43 #[.pointer (some ⟨lp, 0, none⟩), .slice a b.length cap] w fun e w' => e = .returned (.tuple #[.bool true, .int .i64 0]) ∧ ∃ D', WL w' lp pd bl bm D' { L with next := L.next + partsN b.length, seq := L.seq + 1 } (rs ++ [b]) (k + partsN b.length + 1) ∧ Only [lp, pd, bl, bm] w w' := by
  refine (appended w lp pd bl bm D L rs k a cap b h hs hb hk0 hk).mono ?_
  rintro e w' ⟨rfl, hO, hx⟩
  rw [if_pos hf] at hx
  obtain ⟨D', hW⟩ := hx
  exact ⟨by rw [decide_eq_true hf], D', hW, hO⟩

/-! ### The laws' helpers -/

set_option maxHeartbeats 400000 in
theorem within_nat (w : World) (x : Int) (n : Nat) (hn0 : 0 < n) (hn : n < 1000000) :
    Calls Tryz.prog 16 #[.int .i64 x, .int .i64 n] w fun e w' => e = .returned (.int .i64 (x % n)) ∧ w = w' := by
  obtain ⟨h1, h2, h3, h4⟩ := tmod_bounds x n hn0
  have H3 := Lib.hid h3
  have H4 := Lib.hid h4
  clear h3 h4
  have hnz : ((n : Int) == 0) = false := by simp; omega
  by_cases hs : x.tmod n < 0
  · have e1 := H4.out hs
    rw [← e1]
    clear H3 H4 e1
    go_enter Tryz.func16, Tryz.ntmps16
    go_wp2
    go_ret
    exact ⟨rfl, rfl⟩
  · have e1 := H3.out (by omega)
    rw [← e1]
    clear H3 H4 e1
    go_enter Tryz.func16, Tryz.ntmps16
    go_wp2
    go_ret
    exact ⟨rfl, rfl⟩

/-- A number within bounds, as a natural one. -/
theorem within_to (w : World) (x n : Int) (hn0 : 0 < n) (hn : n < 1000000) :
    Calls Tryz.prog 16 #[.int .i64 x, .int .i64 n] w fun e w' => ∃ m : Nat, e = .returned (.int .i64 m) ∧ (m : Int) < n ∧ (m : Int) = x % n ∧ w = w' := by
  obtain ⟨k, rfl⟩ := Int.eq_ofNat_of_zero_le (show 0 ≤ n by omega)
  refine (within_nat w x k (by omega) (by omega)).mono ?_
  rintro e w' ⟨rfl, rfl⟩
  have h1 := Int.emod_nonneg x (show (k : Int) ≠ 0 by omega)
  have h2 := Int.emod_lt_of_pos x hn0
  exact ⟨(x % k).toNat, by rw [Int.toNat_of_nonneg h1], by omega, by omega, rfl⟩

theorem new_even (w : World) (m : Nat) (h4 : 4 ≤ m) (hm : m ≤ 128) :
    Calls Tryz.prog 14 #[.int .i64 ((2 * m : Nat) : Int)] w (NewOk w (2 * m)) := new_ok w (2 * m) (by omega) (by omega) (by omega)

end Go.Proofs.YtfampoblcielpaaGreat
