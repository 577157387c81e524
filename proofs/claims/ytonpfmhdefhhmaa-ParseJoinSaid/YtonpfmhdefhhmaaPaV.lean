/-
  Raw statements that came in: what they are to a walk.
-/
import Derived.Test.YtonpfmhdefhhmaaPaU
import Derived.Deep.Slices
import Derived.Deep.Fields
namespace Go.Proofs.Ytonpfmhdefhhmaa
set_option maxRecDepth 100000
set_option linter.unusedVariables false
open Go.RowKit Go.Sort Go.ChangeShapes Go.WideShapes Go.Deep

/-- Raw statements in a row: of the first its two numbers, its two rows; what is behind it. -/
inductive RawM where
  | nil
  | cons (k n : Int) (a b rest : RawM)
def RawM.len : RawM → Nat
  | .nil => 0
  | .cons _ _ _ _ r => r.len + 1
def RowR (w : World) (E : List Value → Prop) (n : Nat) (v : Value) : Prop :=
  ∃ a c, v = .slice a n c ∧ n ≤ maxLen ∧ (0 < n → ∃ g o xs, a = some ⟨g, o, none⟩ ∧ g < w.heap.size ∧ w.rangeAt g o xs ∧ E xs)
def EncR (w : World) : RawM → List Value → Prop
  | .nil, xs => xs = []
  | .cons k n a b r, xs => ∃ va vb xr, xs = .int .i64 k :: .int .i64 n :: va :: vb :: xr ∧ RowR w (EncR w a) a.len va ∧ RowR w (EncR w b) b.len vb ∧ EncR w r xr
def RawAt (w : World) (v : Value) (r : RawM) : Prop := RowR w (EncR w r) r.len v

theorem RowR.more {w w' : World} {E E' : List Value → Prop} {n : Nat} {v : Value} (h : RowR w E n v) (hO : Only [] w w') (hE : ∀ xs, E xs → E' xs) : RowR w' E' n v := by
  obtain ⟨a, c, rfl, hn, h⟩ := h
  refine ⟨a, c, rfl, hn, fun h0 => ?_⟩
  obtain ⟨g, o, xs, rfl, hg, hr, he⟩ := h h0
  exact ⟨g, o, xs, rfl, Nat.lt_of_lt_of_le hg hO.size, rangeAt_only hr hO hg (by simp), hE xs he⟩
theorem EncR.more {w w' : World} (hO : Only [] w w') : ∀ {r : RawM} {xs : List Value}, EncR w r xs → EncR w' r xs
  | .nil, xs, h => h
  | .cons k n a b r, xs, h => by
    obtain ⟨va, vb, xr, rfl, h1, h2, h3⟩ := h
    exact ⟨va, vb, xr, rfl, h1.more hO (fun xs => EncR.more hO), h2.more hO (fun xs => EncR.more hO), EncR.more hO h3⟩
theorem RawAt.more {w w' : World} {v : Value} {r : RawM} (h : RawAt w v r) (hO : Only [] w w') : RawAt w' v r := RowR.more h hO (fun xs => EncR.more hO)

theorem raws_open {H : Type} {enc : TypeId × Value → H} {W : World} : ∀ (N fuel : Nat), fuel ≤ N → ∀ (cs : List Value) (x : DataW H × List MemPlace),
    DataW.trod enc Try.prog W 0 (fun _ => true) true fuel 22 cs = some x → ∃ v r, cs = [v] ∧ RawAt W v r := by
  intro N
  induction N with
  | zero =>
    intro fuel hN cs x h
    rcases DataW.trod_slice Try.underlying22 h with ⟨rfl, -⟩ | ⟨a, len, cap, elems, rest, n, hf, -⟩
    · exact ⟨_, .nil, rfl, none, 0, rfl, Nat.zero_le _, fun h => by simp [RawM.len] at h⟩
    · omega
  | succ N ih =>
    intro fuel hN cs x h
    rcases DataW.trod_slice Try.underlying22 h with ⟨rfl, -⟩ | ⟨a, len, cap, elems, rest, n, hf, rfl, rfl, -, hlc, hcm, hel, hx, -, -⟩
    · exact ⟨_, .nil, rfl, none, 0, rfl, Nat.zero_le _, fun h => by simp [RawM.len] at h⟩
    · have c4 : Try.prog.cellsOf 99 = 4 := by kernel_rfl
      rw [c4] at hx
      by_cases h0 : len = 0
      · subst h0; exact ⟨_, .nil, rfl, some a, cap, rfl, Nat.zero_le _, fun h => by simp [RawM.len] at h⟩
      have hx' : ∀ i, i < len → ∃ cs' y, W.cells? 0 (a.add (i * 4)) 4 = some cs' ∧ DataW.trod enc Try.prog W 0 (fun _ => true) true n 99 cs' = some y := by
        intro i hi
        have h1 := hx i hi
        rw [List.getElem?_eq_getElem (by omega)] at h1
        obtain ⟨cs', h2, h3⟩ := Option.bind_eq_some_iff.1 h1
        exact ⟨cs', _, h2, h3⟩
      obtain ⟨b, o, sp0⟩ := a
      have hspot : sp0 = none := by
        obtain ⟨cs', y, hc, _⟩ := hx' 0 (by omega)
        obtain ⟨_, hcl, hat⟩ := World.cells?_some hc
        have h1 := hat 0 (by omega)
        rw [List.getElem?_eq_getElem (by omega)] at h1
        simpa [Addr.add] using World.cell?_spot h1
      subst hspot
      have hb : b < W.heap.size := by
        obtain ⟨cs', y, hc, _⟩ := hx' 0 (by omega)
        obtain ⟨_, hcl, hat⟩ := World.cells?_some hc
        have h1 := hat 0 (by omega)
        rw [List.getElem?_eq_getElem (by omega)] at h1
        have := World.block_lt_of_cell? W _ h1
        simpa [Addr.add] using this
      have hall : ∀ i, i < len → ∃ (k m : Int) (va vb : Value) (ra rb : RawM), W.rangeAt b (o + i * 4) [.int .i64 k, .int .i64 m, va, vb] ∧ RawAt W va ra ∧ RawAt W vb rb := by
        intro i hi
        obtain ⟨cs', y, hc, ht⟩ := hx' i hi
        obtain ⟨_, hcl, hat⟩ := World.cells?_some hc
        obtain ⟨xs, m, hm, _, _, hlen, hfi⟩ := DataW.trod_struct Try.underlying99 ht
        match cs', hcl with
        | [v0, v1, v2, v3], _ =>
          match xs, hlen with
          | [y0, y1, y2, y3], _ =>
            have ci : Try.prog.cellsOf 3 = 1 := by kernel_rfl
            have cr : Try.prog.cellsOf 22 = 1 := by kernel_rfl
            have g0 := hfi 0 _ rfl
            have g1 := hfi 1 _ rfl
            have g2 := hfi 2 _ rfl
            have g3 := hfi 3 _ rfl
            simp [ci, cr] at g0 g1 g2 g3
            obtain ⟨z0, e0, _, _⟩ := DataW.trod_int Try.underlying3 g0
            obtain ⟨z1, e1, _, _⟩ := DataW.trod_int Try.underlying3 g1
            simp at e0 e1
            subst e0 e1
            obtain ⟨va, ra, e2, h2⟩ := ih m (by omega) _ _ g2
            obtain ⟨vb, rb, e3, h3⟩ := ih m (by omega) _ _ g3
            simp at e2 e3
            subst e2 e3
            refine ⟨z0, z1, v2, v3, ra, rb, fun j u hu => ?_, h2, h3⟩
            have hj : j < 4 := by have := (List.getElem?_eq_some_iff.1 hu).1; simpa using this
            have h4 := hat j (by omega)
            rw [hu, Addr.add_mid, Addr.add_mid] at h4
            exact h4
      have key : ∀ j, j ≤ len → ∃ r xs, r.len = j ∧ EncR W r xs ∧ W.rangeAt b (o + (len - j) * 4) xs := by
        intro j
        induction j with
        | zero => intro _; exact ⟨.nil, [], rfl, rfl, fun i u hu => by simp at hu⟩
        | succ j ihj =>
          intro hj
          obtain ⟨r, xs, h1, h2, h3⟩ := ihj (by omega)
          obtain ⟨k, m, va, vb, ra, rb, h4, h5, h6⟩ := hall (len - (j + 1)) (by omega)
          refine ⟨.cons k m ra rb r, .int .i64 k :: .int .i64 m :: va :: vb :: xs, by rw [RawM.len, h1], ⟨va, vb, xs, rfl, h5, h6, h2⟩, fun i u hu => ?_⟩
          match i with
          | 0 => exact h4 0 u hu
          | 1 => exact h4 1 u hu
          | 2 => exact h4 2 u hu
          | 3 => exact h4 3 u hu
          | i + 4 =>
            have := h3 i u hu
            rw [show o + (len - j) * 4 + i = o + (len - (j + 1)) * 4 + (i + 4) by omega] at this
            exact this
      obtain ⟨r, xs, h1, h2, h3⟩ := key len (Nat.le_refl _)
      rw [Nat.sub_self, Nat.zero_mul, Nat.add_zero] at h3
      refine ⟨_, r, rfl, some ⟨b, o, none⟩, cap, by rw [h1], by rw [h1]; omega, fun _ => ⟨b, o, xs, rfl, hb, h3, h2⟩⟩

theorem raws_of_read {H : Type} {enc : TypeId × Value → H} {W : World} {a : Option Addr} {len cap : Nat} {d : DataW H} {p : List MemPlace}
    (h : DataW.Trod enc Try.prog W 0 (fun _ => true) true 22 (.slice a len cap) d p) : ∃ r, RawAt W (.slice a len cap) r := by
  obtain ⟨fuel, hf⟩ := h
  obtain ⟨v, r, h1, h2⟩ := raws_open fuel fuel (Nat.le_refl _) _ _ hf
  simp [Value.cells] at h1
  subst h1
  exact ⟨r, h2⟩

end Go.Proofs.Ytonpfmhdefhhmaa
