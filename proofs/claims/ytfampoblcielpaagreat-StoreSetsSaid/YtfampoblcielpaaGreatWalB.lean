/-
  A record that Parts begin with, a half's beginning: what chapter 3 says by itself, and the functions record and beginning of the package wal, by contracts.
-/
import Derived.Test.YtfampoblcielpaaGreatWalA
namespace Go.Proofs.YtfampoblcielpaaGreat
set_option maxRecDepth 100000
open Go.RowKit

/-- The record of a generation and a number that Parts begin with, and of how many it is. -/
def recM (ps : List PartM) (gen rec : Int) : Option (List UInt8 × Nat) :=
  match ps with
  | [] => none
  | p :: _ => if p.g = gen ∧ p.r = rec ∧ p.o ≤ (ps.length : Int) then (joinB (ps.take p.o.toNat)).map (fun b => (b, p.o.toNat)) else none

theorem recM_no {ps : List PartM} {p : PartM} {gen rec : Int} (h0 : ps[0]? = some p) (h : ¬ (p.g = gen ∧ p.r = rec ∧ p.o ≤ (ps.length : Int))) : recM ps gen rec = none := by
  cases ps with
  | nil => cases h0
  | cons q r => simp at h0; subst h0; simp only [recM]; rw [if_neg h]
theorem recM_yes {ps : List PartM} {p : PartM} {gen rec : Int} (h0 : ps[0]? = some p) (h : p.g = gen ∧ p.r = rec ∧ p.o ≤ (ps.length : Int)) : recM ps gen rec = (joinB (ps.take p.o.toNat)).map (fun b => (b, p.o.toNat)) := by
  cases ps with
  | nil => cases h0
  | cons q r => simp at h0; subst h0; simp only [recM]; rw [if_pos h]

theorem join_pos {ps : List PartM} {b : List UInt8} (h : joinB ps = some b) : 0 < ps.length := by
  by_cases hf : fitsP ps
  · have := hf.1; unfold oneRec at this; simp only [Bool.and_eq_true, decide_eq_true_eq] at this; exact this.2
  · rw [join_none hf] at h; cases h

theorem recM_pos {ps : List PartM} {gen rec : Int} {b : List UInt8} {k : Nat} (h : recM ps gen rec = some (b, k)) : 0 < k ∧ k ≤ ps.length := by
  cases ps with
  | nil => simp [recM] at h
  | cons p r =>
    simp only [recM] at h
    split at h
    · next hc =>
      cases hj : joinB ((p :: r).take p.o.toNat) with
      | none => rw [hj] at h; cases h
      | some b' =>
        rw [hj] at h; simp at h
        have := join_pos hj
        rw [List.length_take] at this
        omega
    · cases h

/-- What record answers. -/
def RecTo (w : World) (x : Option (List UInt8 × Nat)) (e : Ending) (w' : World) : Prop :=
  match x with
  | none => e = .returned (.tuple #[.slice none 0 0, .int .i64 0]) ∧ Only [] w w'
  | some (b, k) => ∃ a, e = .returned (.tuple #[.slice a b.length b.length, .int .i64 k]) ∧ Src w' a b.length b ∧ (∀ x y, a = some ⟨x, y, none⟩ → w.heap.size ≤ x) ∧ Only [] w w'

/-- Parts as a disk has them: what numbers they may bear. -/
def Sane (ps : List PartM) : Prop := ∀ p ∈ ps, 0 ≤ p.o ∧ p.o ≤ 255 ∧ 0 ≤ p.g ∧ p.g ≤ 4294967295

theorem PartsAt.take {w : World} {a : Option Addr} {len : Nat} {ps : List PartM} (h : PartsAt w a len ps) (k : Nat) (hk : k ≤ len) : PartsAt w a k (ps.take k) := by
  refine ⟨by rw [List.length_take, h.1]; omega, fun hp => ?_⟩
  obtain ⟨b, o, rfl, hb, hps⟩ := h.2 (by omega)
  refine ⟨b, o, rfl, hb, fun i p hi => hps i p ?_⟩
  rw [List.getElem?_take] at hi
  split at hi
  · exact hi
  · cases hi

theorem record_none (w : World) (a : Option Addr) (cap : Nat) (gen rec : Int) :
    Calls Tryz.prog 49 #[.slice a 0 cap, .int .i64 gen, .int .i64 rec] w fun e w' => e = .returned (.tuple #[.slice none 0 0, .int .i64 0]) ∧ w = w' := by
  go_enter Tryz.func49, Tryz.ntmps49
  go_wp2
  go_ret2
  exact ⟨rfl, rfl⟩

set_option maxHeartbeats 2000000 in
theorem record_any (w : World) (a : Option Addr) (len cap : Nat) (ps : List PartM) (gen rec : Int) (h : PartsAt w a len ps) (hs : Sane ps) (hlen : len ≤ 1000) (hcap : len ≤ cap) :
    Calls Tryz.prog 49 #[.slice a len cap, .int .i64 gen, .int .i64 rec] w (RecTo w (recM ps gen rec)) := by
  have hl := h.1
  by_cases h0 : len = 0
  · subst h0
    obtain rfl : ps = [] := List.eq_nil_of_length_eq_zero hl
    exact (record_none w a cap gen rec).mono (fun e w' ⟨h1, h2⟩ => ⟨h1, h2 ▸ Only.refl _ _⟩)
  · obtain ⟨b, o, rfl, hb, hps⟩ := h.2 (by omega)
    obtain ⟨p, hp⟩ : ∃ p, ps[0]? = some p := ⟨_, List.getElem?_eq_getElem (by omega)⟩
    obtain ⟨da, dc, hr, -⟩ := hps 0 p hp
    have k0 : w.cell? ⟨b, o, none⟩ = some (.int .i64 p.g) := hr 0 _ rfl
    have k1 : w.cell? ⟨b, o + 1, none⟩ = some (.int .i64 p.r) := hr 1 _ rfl
    have k3 : w.cell? ⟨b, o + 3, none⟩ = some (.int .i64 p.o) := hr 3 _ rfl
    have hz : ((len : Int) == 0) = false := by simp; omega
    have hpi : (0 : Int) < (len : Int) := by omega
    obtain ⟨hpo, hpo2, -, -⟩ := hs p (List.mem_of_getElem? hp)
    have Hno := Lib.hid (fun hc => recM_no (gen := gen) (rec := rec) hp hc)
    have Hyes := Lib.hid (fun hc => recM_yes (gen := gen) (rec := rec) hp hc)
    have H := Lib.hid h
    have Hl := Lib.hid hl
    clear hps hr h hs hl hp
    by_cases h1 : p.g = gen
    · have h1' : (p.g != gen) = false := by simpa using h1
      by_cases h2 : p.r = rec
      · have h2' : (p.r != rec) = false := by simpa using h2
        by_cases h3 : p.o ≤ (len : Int)
        · have h3' : ¬ ((len : Int) < p.o) := by omega
          have hy := Lib.hid (Hyes.out ⟨h1, h2, by rw [Hl.out]; exact h3⟩)
          obtain ⟨k, hk⟩ : ∃ k : Nat, p.o = (k : Int) := ⟨p.o.toNat, by omega⟩
          rw [hk] at k3 h3 h3' hy
          rw [Int.toNat_natCast] at hy
          have hkl : k ≤ len := by omega
          have hkc : (k : Int) ≤ (cap : Int) := by omega
          have HP := Lib.hid (H.out.take k hkl)
          clear Hno Hyes h1 h2 hk H hpo hpo2
          go_enter Tryz.func49, Tryz.ntmps49
          go_wp2_with fail
          refine (join_any _ _ k _ (ps.take k) HP.out (by omega)).mono ?_
          cases hj : joinB (ps.take k) with
          | none =>
            rintro e w1 ⟨rfl, hO⟩
            have Hj := Lib.hid hj
            clear hj
            go_wp2
            go_ret2
            rw [hy.out, Hj.out]
            exact ⟨rfl, hO⟩
          | some c =>
            rintro e w1 ⟨ad, rfl, hsr, had, hO⟩
            have Hj := Lib.hid hj
            clear hj
            go_wp2
            go_ret2
            rw [hy.out, Hj.out]
            exact ⟨ad, rfl, hsr, fun x y e => (had x y e).1, hO⟩
        · have h3' : (len : Int) < p.o := by omega
          have hn := Lib.hid (Hno.out (fun h => h3 (by have := h.2.2; rwa [Hl.out] at this)))
          clear Hno Hyes
          go_enter Tryz.func49, Tryz.ntmps49
          go_wp2
          go_ret2
          rw [hn.out]
          exact ⟨rfl, Only.refl _ _⟩
      · have h2' : (p.r != rec) = true := by simpa using h2
        have hn := Lib.hid (Hno.out (fun h => h2 h.2.1))
        clear Hno Hyes
        go_enter Tryz.func49, Tryz.ntmps49
        go_wp2
        go_ret2
        rw [hn.out]
        exact ⟨rfl, Only.refl _ _⟩
    · have h1' : (p.g != gen) = true := by simpa using h1
      have hn := Lib.hid (Hno.out (fun h => h1 h.1))
      clear Hno Hyes
      go_enter Tryz.func49, Tryz.ntmps49
      go_wp2
      go_ret2
      rw [hn.out]
      exact ⟨rfl, Only.refl _ _⟩

/-- The generation that a half begins with. -/
def beginM (ps : List PartM) : Int :=
  match ps with
  | [] => 0
  | p :: _ => if (recM ps p.g 0).isSome then p.g else 0

set_option maxHeartbeats 2000000 in
theorem beginning_any (w : World) (a : Option Addr) (len cap : Nat) (ps : List PartM) (h : PartsAt w a len ps) (hs : Sane ps) (hlen : len ≤ 1000) (hcap : len ≤ cap) :
    Calls Tryz.prog 48 #[.slice a len cap] w fun e w' => e = .returned (.int .i64 (beginM ps)) ∧ Only [] w w' := by
  have hl := h.1
  by_cases h0 : len = 0
  · subst h0
    obtain rfl : ps = [] := List.eq_nil_of_length_eq_zero hl
    go_enter Tryz.func48, Tryz.ntmps48
    go_wp2
    go_ret
    exact ⟨rfl, Only.refl _ _⟩
  · obtain ⟨b, o, rfl, hb, hps⟩ := h.2 (by omega)
    obtain ⟨p, hp⟩ : ∃ p, ps[0]? = some p := ⟨_, List.getElem?_eq_getElem (by omega)⟩
    obtain ⟨da, dc, hr, -⟩ := hps 0 p hp
    have k0 : w.cell? ⟨b, o, none⟩ = some (.int .i64 p.g) := hr 0 _ rfl
    have hz : ((len : Int) == 0) = false := by simp; omega
    have hpi : (0 : Int) < (len : Int) := by omega
    have hbm : Hid (beginM ps = if (recM ps p.g 0).isSome then p.g else 0) := Lib.hid (by
      cases ps with
      | nil => cases hp
      | cons q r => simp at hp; subst hp; rfl)
    have H := Lib.hid h
    have Hs := Lib.hid hs
    clear hps hr h hs hl hp
    go_enter Tryz.func48, Tryz.ntmps48
    go_wp2_with fail
    refine (record_any _ _ len cap ps p.g 0 H.out Hs.out hlen hcap).mono ?_
    cases hj : recM ps p.g 0 with
    | none =>
      rintro e w1 ⟨rfl, hO⟩
      have Hj := Lib.hid hj
      clear hj
      go_wp2
      go_ret
      rw [hbm.out, Hj.out]
      exact ⟨rfl, hO⟩
    | some c =>
      obtain ⟨c, k⟩ := c
      have hk := (recM_pos hj).1
      have hkz : ((k : Int) == 0) = false := by simp; omega
      rintro e w1 ⟨ad, rfl, hsr, had, hO⟩
      have Hj := Lib.hid hj
      clear hj
      go_wp2
      go_ret
      rw [hbm.out, Hj.out]
      exact ⟨rfl, hO⟩

end Go.Proofs.YtfampoblcielpaaGreat
