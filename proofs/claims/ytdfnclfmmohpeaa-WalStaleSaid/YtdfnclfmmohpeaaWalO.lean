/-
  Rows of bytes that came in; a row of one's own begun with one; the walk of the law WalRows.
-/
import Derived.Test.YtdfnclfmmohpeaaWalM
import Derived.Test.YtdfnclfmmohpeaaCallArg
import Derived.Deep.DeepCutAuto
import Derived.Deep.CutBlock
namespace Go.Proofs.Ytdfnclfmmohpeaa
set_option maxRecDepth 100000
open Go.RowKit Go.ChangeShapes Go.WideShapes Go.Deep

/-- A slice of slices of bytes that came in: each one's capacity is known, too. -/
def RowsArg (w : World) (a : Option Addr) (len : Nat) (rs : List (List UInt8)) : Prop :=
  rs.length = len ∧ len ≤ maxLen ∧ (0 < len → ∃ b o, a = some ⟨b, o, none⟩ ∧ b < w.heap.size ∧ ∀ (i : Nat) (r : List UInt8), rs[i]? = some r → ∃ da dc, w.cell? ⟨b, o + i, none⟩ = some (.slice da r.length dc) ∧ Src w da r.length r ∧ r.length ≤ dc)

/-- One of them, in a later world. -/
theorem RowsArg.at_ {w w' : World} {a : Option Addr} {len : Nat} {rs : List (List UInt8)} (h : RowsArg w a len rs) (hO : Only [] w w') {i : Nat} (hi : i < len) :
    ∃ b o r da dc, a = some ⟨b, o, none⟩ ∧ rs[i]? = some r ∧ w'.cell? ⟨b, o + i, none⟩ = some (.slice da r.length dc) ∧ Src w' da r.length r ∧ r.length ≤ dc ∧ (0 < r.length → ∀ x y, da = some ⟨x, y, none⟩ → x < w.heap.size) := by
  obtain ⟨h1, h2, h3⟩ := h
  obtain ⟨b, o, rfl, hb, hr⟩ := h3 (by omega)
  obtain ⟨da, dc, hc, hs, hd⟩ := hr i rs[i] (List.getElem?_eq_getElem (by omega))
  exact ⟨b, o, rs[i], da, dc, rfl, List.getElem?_eq_getElem (by omega), (hO.cell (p := ⟨b, o + i, none⟩) hb (by simp)).trans hc, hs.more hO, hd, fun hp x y e => hs.lt hp e⟩

theorem cap_of_read {H : Type} {enc : TypeId × Value → H} {W : World} {a : Option Addr} {len cap : Nat} {d : DataW H} {p : List MemPlace}
    (h : DataW.Trod enc Try.prog W 0 (fun _ => true) true 23 (.slice a len cap) d p) : len ≤ cap := by
  obtain ⟨fuel, hf⟩ := h
  rcases open_ints Try.underlying23 Try.underlying5 (by kernel_rfl) hf with ⟨hcs, _⟩ | ⟨x, l, c, zs, hcs, _, hl, _⟩
  · simp [Value.cells] at hcs
    obtain ⟨rfl, rfl, rfl⟩ := hcs
    exact Nat.le_refl _
  · simp [Value.cells] at hcs
    obtain ⟨rfl, rfl, rfl⟩ := hcs
    exact hl

theorem rows_of_read {H : Type} {enc : TypeId × Value → H} {W : World} {a : Option Addr} {len cap : Nat} {d : DataW H} {p : List MemPlace}
    (h : DataW.Trod enc Try.prog W 0 (fun _ => true) true 32 (.slice a len cap) d p) : ∃ rs, RowsArg W a len rs := by
  obtain ⟨fuel, hf⟩ := h
  rcases open_slice Try.underlying32 hf with ⟨hcs, _⟩ | ⟨x, l, c, m, n, D, Pl, hcs, _, hl, hm, hmm, _, hx⟩
  · simp [Value.cells] at hcs
    obtain ⟨rfl, rfl, rfl⟩ := hcs
    exact ⟨[], rfl, by simp, fun h => by omega⟩
  · simp [Value.cells] at hcs
    obtain ⟨rfl, rfl, rfl⟩ := hcs
    have c36 : Try.prog.cellsOf 23 = 1 := by kernel_rfl
    rw [c36] at hx
    have hm' : m = cap := by simpa using hmm
    by_cases h0 : len = 0
    · subst h0; exact ⟨[], rfl, by simp, fun h => by omega⟩
    obtain ⟨b, o, sp0⟩ := x
    have hspot : sp0 = none := by
      obtain ⟨cs', hc, _⟩ := hx 0 (by omega)
      obtain ⟨_, hcl, hat⟩ := World.cells?_some hc
      have h1 := hat 0 (by omega)
      rw [List.getElem?_eq_getElem (by omega)] at h1
      simpa [Addr.add] using World.cell?_spot h1
    subst hspot
    have hb : b < W.heap.size := by
      obtain ⟨cs', hc, _⟩ := hx 0 (by omega)
      obtain ⟨_, hcl, hat⟩ := World.cells?_some hc
      have h1 := hat 0 (by omega)
      rw [List.getElem?_eq_getElem (by omega)] at h1
      have := World.block_lt_of_cell? W _ h1
      simpa [Addr.add] using this
    have hall : ∀ i, i < len → ∃ (r : List UInt8) (da : Option Addr) (dc : Nat), W.cell? ⟨b, o + i, none⟩ = some (.slice da r.length dc) ∧ Src W da r.length r ∧ r.length ≤ dc := fun i hi => by
      obtain ⟨cs', hc, ht⟩ := hx i (by omega)
      obtain ⟨_, hcl, hat⟩ := World.cells?_some hc
      match cs', hcl with
      | [v], _ =>
        have h1 := hat 0 (by omega)
        rw [Addr.add_mid, Addr.add_mid, Nat.add_zero, Nat.mul_one] at h1
        simp at h1
        have hsl : ∃ a l c, v = .slice a l c := by
          rcases open_slice Try.underlying23 ht with ⟨hcs, _⟩ | ⟨a, l, c, _, _, _, _, hcs, _⟩
          · simp at hcs; exact ⟨_, _, _, hcs⟩
          · simp at hcs; exact ⟨_, _, _, hcs⟩
        obtain ⟨a, l, c, rfl⟩ := hsl
        obtain ⟨r, hs⟩ := src_of_read (enc := enc) (W := W) (a := a) (len := l) (cap := c) ⟨_, by simpa [Value.cells] using ht⟩
        have hcp := cap_of_read (enc := enc) (W := W) (a := a) (len := l) (cap := c) ⟨_, by simpa [Value.cells] using ht⟩
        refine ⟨r, a, c, ?_, ?_, ?_⟩
        · rw [hs.1]; exact h1
        · rw [hs.1]; exact hs
        · rw [hs.1]; exact hcp
    have : ∀ k, k ≤ len → ∃ L : List (List UInt8), L.length = k ∧ ∀ (i : Nat) (r : List UInt8), L[i]? = some r → ∃ da dc, W.cell? ⟨b, o + i, none⟩ = some (.slice da r.length dc) ∧ Src W da r.length r ∧ r.length ≤ dc := by
      intro k
      induction k with
      | zero => intro _; exact ⟨[], rfl, fun i c h => by simp at h⟩
      | succ k ih =>
        intro hk
        obtain ⟨L, hL, hLc⟩ := ih (by omega)
        obtain ⟨r, da, dc, hr⟩ := hall k (by omega)
        refine ⟨L ++ [r], by simp [hL], fun i c' h => ?_⟩
        rcases Nat.lt_or_ge i L.length with hi | hi
        · rw [List.getElem?_append_left hi] at h; exact hLc i c' h
        · rw [List.getElem?_append_right hi] at h
          have hik : i = k := by
            have := (List.getElem?_eq_some_iff.1 h).1; simp at this; omega
          subst hik
          simp [hL] at h
          subst h
          exact ⟨da, dc, hr⟩
    obtain ⟨L, hL, hLc⟩ := this len (Nat.le_refl _)
    exact ⟨L, hL, by omega, fun _ => ⟨b, o, rfl, hb, hLc⟩⟩

/-- A row of one. -/
theorem OwnBs.one {w : World} {base : Nat} {T : List Nat} {da : Option Addr} {dc : Nat} {r : List UInt8} (hs : Src w da r.length r) (hb : base ≤ w.heap.size) (hd : 0 < r.length → ∀ x y, da = some ⟨x, y, none⟩ → x ∉ T) :
    OwnBs (w.alloc (.cells #[.slice da r.length dc] 23)) base T (.slice (some ⟨w.heap.size, 0, none⟩) 1 1) [r] := by
  refine ⟨[.slice da r.length dc], World.ownsRow_lit (base := base) (e := 23) (size := 1) w #[.slice da r.length dc] 1 hb (by simp [maxLen]) rfl, fun i q hi => ?_⟩
  have hi0 : i = 0 := by have := (List.getElem?_eq_some_iff.1 hi).1; simp at this; exact this
  subst hi0
  simp at hi
  subst hi
  refine ⟨da, dc, rfl, hs.more ((Only.refl [] w).alloc _), fun hp x y e => ⟨hd hp x y e, fun e2 => ?_⟩⟩
  have := hs.lt hp e
  simp [Value.ownBlock] at e2
  omega

theorem Src.head {w : World} {a : Option Addr} {len : Nat} {l : List UInt8} (h : Src w a len l) (k : Nat) (hk : k ≤ len) : Src w a k (l.take k) := by
  refine ⟨by rw [List.length_take, h.1]; omega, fun hp => ?_⟩
  obtain ⟨b, o, e, hb, hr⟩ := h.2 (by omega)
  refine ⟨b, o, e, hb, fun j v hv => hr j v ?_⟩
  rw [bv_take, List.getElem?_take] at hv
  split at hv
  · exact hv
  · cases hv

end Go.Proofs.Ytdfnclfmmohpeaa
