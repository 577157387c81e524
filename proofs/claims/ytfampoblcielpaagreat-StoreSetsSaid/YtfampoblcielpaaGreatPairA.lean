/-
  A disk and the document's own one, side by side: each function once more as one total contract; that both come to the same.
-/
import Derived.Test.YtfampoblcielpaaGreatRefD
namespace Go.Proofs.YtfampoblcielpaaGreat
set_option linter.unusedVariables false
set_option maxRecDepth 100000
open Go.RowKit

/-- The same, as far as it can be told. -/
theorem RefAt.congr {w : World} {B : Nat} {R : RefP} {D E : RS} (h : RefAt w B R D) (hn : E.n = D.n) (h1 : ∀ i, i < D.n → E.now i = D.now i) (h2 : ∀ i, i < D.n → E.last i = D.last i) (h3 : ∀ i, i < D.n → E.new i = D.new i) (h4 : E.dead = D.dead) (h5 : E.left = D.left) (h6 : E.ops = D.ops) : RefAt w B R E where
  blk := by have := h.blk; rw [rcells, ← hn, ← h4, ← h5, ← h6] at this; exact this
  now i hi := by obtain ⟨a, b, c⟩ := h.now i (by omega); rw [h1 i (by omega)]; exact ⟨a, b, c⟩
  last i hi := by obtain ⟨a, b, c⟩ := h.last i (by omega); rw [h2 i (by omega)]; exact ⟨a, b, c⟩
  new i hi := by rw [h3 i (by omega)]; exact h.new i (by omega)
  fN := h.fN
  fL := h.fL
  fB := h.fB
  gq := h.gq
  gN := h.gN
  gL := h.gL
  gB := h.gB
  lN := h.lN
  lL := h.lL
  lB := h.lB
  qN := h.qN
  qL := h.qL
  qB := h.qB
  NL := h.NL
  NB_ := h.NB_
  LB := h.LB
  pos := by have := h.pos; omega
  small := by have := h.small; omega

/-- The document's disk that a disk ought to be. -/
def refOf (D : DS) : RS := { n := D.n, now := D.now, last := D.last, new := fun i => (D.fresh i).isSome, dead := D.dead, left := D.fuse, ops := D.ops }

/-- Numbers that do not run over. -/
def DS.calm (D : DS) (K : Int) : Prop := -1 ≤ D.fuse ∧ D.fuse < 1000 ∧ 0 ≤ D.ops ∧ D.ops ≤ K

/-- What Write does: the disk behind it, its answer. -/
def DS.writeR (D : DS) (x : Int) (l : List UInt8) : DS × Int :=
  if D.dead = true then (D, 3) else if badW x D.n l.length = true then (D, 1) else if D.fuse = 0 then ({ D with fuse := 0, dead := true, ops := D.ops }, 3)
  else (D.put (burnt D.fuse) (D.ops + 1) x.toNat l, 0)
/-- What Flush does. -/
def DS.flushR (D : DS) : DS × Int :=
  if D.dead = true then (D, 3) else if D.fuse = 0 then ({ D with fuse := 0, dead := true, ops := D.ops }, 3)
  else ({ D with fuse := burnt D.fuse, ops := D.ops + 1 }.flushed, 0)
/-- What Fuse does. -/
def DS.fuseR (D : DS) (x : Int) : DS := if x < 0 then { D with fuse := -1, dead := false, ops := D.ops } else { D with fuse := x, dead := D.dead, ops := D.ops }

def DAny (w : World) (p bl bm : Nat) (D : DS) (v : Value) (e : Ending) (w' : World) : Prop := e = .returned v ∧ DiskAt w' p bl bm D ∧ Only [p, bl, bm] w w'

theorem bad_not {x : Int} {n m : Nat} (h : badW x n m = false) : 0 ≤ x ∧ x < n ∧ m = 64 := by
  simp [badW, hasB] at h; omega

theorem write_any (w : World) (p bl bm : Nat) (D : DS) (x : Int) (a : Option Addr) (m c : Nat) (l : List UInt8) (K : Int) (h : DiskAt w p bl bm D) (hc : D.calm K) (hK : K < 1000000) (hs : Src w a m l) (hp : 0 < m → ∀ b o, a = some ⟨b, o, none⟩ → b ≠ p) :
    Calls Tryz.prog 59 #[.pointer (some ⟨p, 0, none⟩), .int .i64 x, .slice a m c] w (DAny w p bl bm (D.writeR x l).1 (.int .i64 (D.writeR x l).2)) := by
  obtain ⟨c1, c2, c3, c4⟩ := hc
  have hl := hs.1
  unfold DS.writeR
  by_cases hd : D.dead = true
  · rw [if_pos hd]
    exact (write_dead w p bl bm D x _ h hd).mono fun e w' ⟨he, hw⟩ => ⟨he, by rw [← hw]; exact h, by rw [← hw]; exact Only.refl _ _⟩
  · rw [if_neg hd]
    have hd' : D.dead = false := by simpa using hd
    by_cases hb : badW x D.n l.length = true
    · rw [if_pos hb]
      rw [hl] at hb
      exact (write_bad w p bl bm D x a m c h hd' hb).mono fun e w' ⟨he, hw⟩ => ⟨he, by rw [← hw]; exact h, by rw [← hw]; exact Only.refl _ _⟩
    · rw [if_neg hb]
      obtain ⟨hx0, hx1, h64⟩ := bad_not (by simpa using hb)
      have hm : m = 64 := by omega
      subst hm
      obtain ⟨X, rfl⟩ := Int.eq_ofNat_of_zero_le hx0
      by_cases hf : D.fuse = 0
      · rw [if_pos hf]
        exact (write_spent w p bl bm D X a c h hd' (by omega) hf).mono fun e w' ⟨he, hD, hO⟩ => ⟨he, hD, hO.into (by simp)⟩
      · rw [if_neg hf]
        obtain ⟨g, o, rfl, hg, hr⟩ := hs.2 (by omega)
        rw [Int.toNat_natCast]
        exact (write_ok w p bl bm D X g o c l h hd' (by omega) hf c1 (by omega) c3 (by omega) h64 hr hg (hp (by omega) g o rfl)).mono fun e w' ⟨he, hD, hO⟩ => ⟨he, hD, hO.into (by simp)⟩

theorem flush_any (w : World) (p bl bm : Nat) (D : DS) (K : Int) (h : DiskAt w p bl bm D) (hc : D.calm K) (hK : K < 1000000) :
    Calls Tryz.prog 60 #[.pointer (some ⟨p, 0, none⟩)] w (DAny w p bl bm D.flushR.1 (.int .i64 D.flushR.2)) := by
  obtain ⟨c1, c2, c3, c4⟩ := hc
  unfold DS.flushR
  by_cases hd : D.dead = true
  · rw [if_pos hd]
    exact (flush_dead w p bl bm D h hd).mono fun e w' ⟨he, hw⟩ => ⟨he, by rw [← hw]; exact h, by rw [← hw]; exact Only.refl _ _⟩
  · rw [if_neg hd]
    have hd' : D.dead = false := by simpa using hd
    by_cases hf : D.fuse = 0
    · rw [if_pos hf]
      exact (flush_spent w p bl bm D h hd' hf).mono fun e w' ⟨he, hD, hO⟩ => ⟨he, hD, hO.into (by simp)⟩
    · rw [if_neg hf]
      exact (flush_ok w p bl bm D h hd' hf c1 (by omega) c3 (by omega)).mono fun e w' ⟨he, hD, hO⟩ => ⟨he, hD, hO⟩

/-! ### The document's one -/
def RAny (w : World) (B : Nat) (R : RefP) (D : DS) (v : Value) (e : Ending) (w' : World) : Prop := e = .returned v ∧ RefAt w' B R (refOf D) ∧ Only R.own w w'

theorem cnt_ref (D : DS) : ∀ i, cntN (refOf D).new i = D.cnt i
  | 0 => rfl
  | i + 1 => by
    have ih := cnt_ref D i
    simp only [cntN, DS.cnt, ih]; rfl
end Go.Proofs.YtfampoblcielpaaGreat
