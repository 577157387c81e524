/-
  Numbers and texts that came in; the laws' helper Text.
-/
import Derived.Test.YtgkddbpfjbgelaaLxF
import Derived.Deep.Slices
import Derived.Deep.Fields
namespace Go.Proofs.Ytgkddbpfjbgelaa
set_option maxRecDepth 100000
set_option linter.unusedVariables false
open Go.RowKit Go.Sort Go.ChangeShapes Go.WideShapes Go.Deep

/-- Numbers in a row. -/
def IntsAt (w : World) (a : Option Addr) (len : Nat) (ns : List Int) : Prop :=
  ns.length = len ∧ (0 < len → ∃ b o, a = some ⟨b, o, none⟩ ∧ b < w.heap.size ∧ ∀ (i : Nat) (n : Int), ns[i]? = some n → w.cell? ⟨b, o + i, none⟩ = some (.int .i64 n))
theorem IntsAt.more {w w' : World} {a : Option Addr} {len : Nat} {ns : List Int} (h : IntsAt w a len ns) (hO : Only [] w w') : IntsAt w' a len ns :=
  ⟨h.1, fun hp => by
    obtain ⟨b, o, rfl, hb, hc⟩ := h.2 hp
    exact ⟨b, o, rfl, Nat.lt_of_lt_of_le hb hO.size, fun i n hn => (hO.cell (p := ⟨b, _, none⟩) hb (by simp)).trans (hc i n hn)⟩⟩
def IntsArg (w : World) (a : Option Addr) (len : Nat) (ns : List Int) : Prop := IntsAt w a len ns ∧ len ≤ maxLen

theorem ints_of_read {H : Type} {enc : TypeId × Value → H} {W : World} {a : Option Addr} {len cap : Nat} {d : DataW H} {p : List MemPlace}
    (h : DataW.Trod enc Try.prog W 0 (fun _ => true) true 22 (.slice a len cap) d p) : ∃ L, IntsArg W a len L := by
  obtain ⟨fuel, hf⟩ := h
  rcases open_slice Try.underlying22 hf with ⟨hcs, _⟩ | ⟨x, l, c, m, n, D, Pl, hcs, _, hl, hm, hmm, _, hx⟩
  · simp [Value.cells] at hcs
    obtain ⟨rfl, rfl, rfl⟩ := hcs
    exact ⟨[], ⟨rfl, fun h => by omega⟩, by simp⟩
  · simp [Value.cells] at hcs
    obtain ⟨rfl, rfl, rfl⟩ := hcs
    have c36 : Try.prog.cellsOf 3 = 1 := by kernel_rfl
    rw [c36] at hx
    have hm' : m = cap := by simpa using hmm
    by_cases h0 : len = 0
    · subst h0; exact ⟨[], ⟨rfl, fun h => by omega⟩, by simp⟩
    obtain ⟨b, o, sp0⟩ := x
    have hspot : sp0 = none := by
      obtain ⟨cs', hc, _⟩ := hx 0 (by omega)
      obtain ⟨_, hcl, hat⟩ := World.cells?_some hc
      have h1 := hat 0 (by omega)
      rw [List.getElem?_eq_getElem (by omega)] at h1
      simpa [Addr.add] using World.cell?_spot h1
    subst hspot
    have hb : b < W.heap.size := by
      obtain ⟨cs', hc, _⟩ := hx 0 (by omega)
      obtain ⟨_, hcl, hat⟩ := World.cells?_some hc
      have h1 := hat 0 (by omega)
      rw [List.getElem?_eq_getElem (by omega)] at h1
      have := World.block_lt_of_cell? W _ h1
      simpa [Addr.add] using this
    have hall : ∀ i, i < len → ∃ z : Int, W.cell? ⟨b, o + i, none⟩ = some (.int .i64 z) := fun i hi => by
      obtain ⟨cs', hc, ht⟩ := hx i (by omega)
      obtain ⟨_, hcl, hat⟩ := World.cells?_some hc
      obtain ⟨z, e, _, _⟩ := DataW.trod_int Try.underlying3 ht
      subst e
      have := hat 0 (by omega)
      rw [Addr.add_mid, Addr.add_mid] at this
      simp at this
      exact ⟨z, this⟩
    have : ∀ k, k ≤ len → ∃ L : List Int, L.length = k ∧ ∀ (i : Nat) (z : Int), L[i]? = some z → W.cell? ⟨b, o + i, none⟩ = some (.int .i64 z) := by
      intro k
      induction k with
      | zero => intro _; exact ⟨[], rfl, fun i c h => by simp at h⟩
      | succ k ih =>
        intro hk
        obtain ⟨L, hL, hLc⟩ := ih (by omega)
        obtain ⟨c, hc⟩ := hall k (by omega)
        refine ⟨L ++ [c], by simp [hL], fun i c' h => ?_⟩
        rcases Nat.lt_or_ge i L.length with hi | hi
        · rw [List.getElem?_append_left hi] at h; exact hLc i c' h
        · rw [List.getElem?_append_right hi] at h
          have hik : i = k := by
            have := (List.getElem?_eq_some_iff.1 h).1; simp at this; omega
          subst hik
          simp [hL] at h
          subst h
          exact hc
    obtain ⟨L, hL, hLc⟩ := this len (Nat.le_refl _)
    exact ⟨L, ⟨hL, fun _ => ⟨b, o, rfl, hb, hLc⟩⟩, by omega⟩


/-- A table of texts, laid as a row. -/
theorem table_cell {w : World} {g : Nat} {t : TypeId} (T : List (List UInt8)) (h : IsBlk w g (.cells (T.map encStr).toArray t)) (i : Nat) (hi : i < T.length) : w.cell? ⟨g, i, none⟩ = some (.string ⟨(T.getD i []).toArray⟩) := by
  rw [h.cell]
  simp [hi]
theorem inM_lti (x : Int) (n : Nat) (hn0 : 0 < n) : (inM x n : Int) < (n : Int) := by have := inM_lt x n hn0; omega

theorem append_list (a b : List UInt8) : (⟨a.toArray⟩ : ByteArray) ++ ⟨b.toArray⟩ = ⟨(a ++ b).toArray⟩ := by
  apply ByteArray.ext
  simp

def tableT : List (List UInt8) := [[123], [125], [32], [120], [108], [109, 97, 105, 110], [117, 115, 101, 32], [115, 101, 116, 32], [108, 111, 99, 107, 32], [117, 110, 108, 111, 99, 107, 32], [99, 97, 108, 108, 32], [115, 112, 97, 119, 110, 32], [105, 102, 32], [101, 108, 115, 101, 32], [108, 111, 111, 112, 32], [118, 97, 114, 32], [102, 117, 110, 99, 32], [102, 32], [57], [10], [9], [65], [109, 50], [97, 98, 99, 100, 101, 102, 103, 104, 105, 106, 107, 108, 109]]
def textW (z : Int) : List UInt8 := tableT.getD (inM z 24) []
def textM (ns : List Int) (k : Nat) : List UInt8 := (ns.take k).flatMap textW
theorem textW_len (z : Int) : (textW z).length ≤ 13 := by
  have h : inM z 24 < 24 := inM_lt z 24 (by omega)
  unfold textW
  generalize inM z 24 = i at *
  have : ∀ i : Fin 24, (tableT.getD i.1 []).length ≤ 13 := by decide
  exact this ⟨i, h⟩
theorem textM_succ (ns : List Int) (k : Nat) (hk : k < ns.length) : textM ns (k + 1) = textM ns k ++ textW ns[k] := by
  unfold textM
  rw [List.take_add_one, List.getElem?_eq_getElem hk]
  simp only [Option.toList_some, List.flatMap_append, List.flatMap_cons, List.flatMap_nil, List.append_nil]
theorem textM_len (ns : List Int) : ∀ k, (textM ns k).length ≤ 13 * k
  | 0 => by simp [textM]
  | k + 1 => by
    have ih := textM_len ns k
    by_cases hk : k < ns.length
    · rw [textM_succ ns k hk, List.length_append]
      have := textW_len ns[k]
      omega
    · unfold textM at ih ⊢
      rw [List.take_of_length_le (by omega)] at ih ⊢
      omega

end Go.Proofs.Ytgkddbpfjbgelaa
