/-
  A list of raw calls that came in: what it is to a walk.
-/
import Derived.Test.YtdfnclfmmohpeaaDiskH
import Derived.Deep.Slices
import Derived.Deep.Fields
namespace Go.Proofs.Ytdfnclfmmohpeaa
set_option linter.unusedVariables false
set_option maxRecDepth 100000
open Go.RowKit Go.ChangeShapes Go.WideShapes Go.Deep

/-- One raw call: kind, place, number, where its bytes lie, its bytes. -/
structure CallR where
  kind : Int
  at_ : Int
  n : Int
  da : Option Addr
  dlen : Nat
  dcap : Nat
  bytes : List UInt8

/-- Call c lies at block b from offset o on. -/
structure CallAt (w : World) (b o : Nat) (c : CallR) : Prop where
  c0 : w.cell? ⟨b, o, none⟩ = some (.int .i64 c.kind)
  c1 : w.cell? ⟨b, o + 1, none⟩ = some (.int .i64 c.at_)
  c2 : w.cell? ⟨b, o + 2, none⟩ = some (.int .i64 c.n)
  c3 : w.cell? ⟨b, o + 3, none⟩ = some (.slice c.da c.dlen c.dcap)
  src : Src w c.da c.dlen c.bytes

/-- The calls L, a slice. -/
def CallsAt (w : World) (a : Option Addr) (len : Nat) (L : List CallR) : Prop :=
  L.length = len ∧ len ≤ maxLen ∧ (0 < len → ∃ b o, a = some ⟨b, o, none⟩ ∧ b < w.heap.size ∧ ∀ i c, L[i]? = some c → CallAt w b (o + i * 4) c)

theorem CallAt.keep {S : List Nat} {w w' : World} {b o : Nat} {c : CallR} (h : CallAt w b o c) (ho : Only S w w') (B : Nat) (hb : b < B) (hB : B ≤ w.heap.size) (hd : 0 < c.dlen → ∀ x y, c.da = some ⟨x, y, none⟩ → x < B) (hS : ∀ k ∈ S, B ≤ k) : CallAt w' b o c := by
  have hn : b ∉ S := fun hm => by have := hS b hm; omega
  have hlt : b < w.heap.size := by omega
  exact ⟨(ho.cell (p := ⟨b, _, none⟩) hlt hn).trans h.c0, (ho.cell (p := ⟨b, _, none⟩) hlt hn).trans h.c1, (ho.cell (p := ⟨b, _, none⟩) hlt hn).trans h.c2, (ho.cell (p := ⟨b, _, none⟩) hlt hn).trans h.c3,
    h.src.keep ho (fun hp x y e hm => by have := hd hp x y e; have := hS x hm; omega)⟩

/-- What is old stays, whatever new blocks have turned. -/
theorem CallsAt.at_ {w w' : World} {a : Option Addr} {len : Nat} {L : List CallR} (h : CallsAt w a len L) {S : List Nat} (ho : Only S w w') (hS : ∀ k ∈ S, w.heap.size ≤ k) {i : Nat} (hi : i < len) :
    ∃ b o c, a = some ⟨b, o, none⟩ ∧ L[i]? = some c ∧ CallAt w' b (o + i * 4) c ∧ b < w.heap.size ∧ (0 < c.dlen → ∀ x y, c.da = some ⟨x, y, none⟩ → x < w.heap.size) := by
  obtain ⟨hl, _, hf⟩ := h
  obtain ⟨b, o, rfl, hb, hc⟩ := hf (by omega)
  have hL : L[i]? = some (L[i]'(by omega)) := List.getElem?_eq_getElem (by omega)
  have hci := hc i _ hL
  have hdl : 0 < (L[i]'(by omega)).dlen → ∀ x y, (L[i]'(by omega)).da = some ⟨x, y, none⟩ → x < w.heap.size := fun hp x y e => hci.src.lt hp e
  exact ⟨b, o, _, rfl, hL, hci.keep ho w.heap.size hb (Nat.le_refl _) hdl hS, hb, hdl⟩

theorem call_of_cells {H : Type} {enc : TypeId × Value → H} {W : World} {n : Nat} {b o : Nat} {cs : List Value} {x : DataW H × List MemPlace} (hcl : cs.length = 4) (hat : ∀ i, i < 4 → W.cell? ⟨b, o + i, none⟩ = cs[i]?)
    (h : DataW.trod enc Try.prog W 0 (fun _ => true) true n 67 cs = some x) : ∃ c, CallAt W b o c := by
  obtain ⟨xs, m, _, _, _, hlen, hf⟩ := DataW.trod_struct Try.underlying67 h
  match cs, hcl with
  | [v0, v1, v2, v3], _ =>
    match xs, hlen with
    | [y0, y1, y2, y3], _ =>
      have c3 : Try.prog.cellsOf 3 = 1 := by kernel_rfl
      have c34 : Try.prog.cellsOf 23 = 1 := by kernel_rfl
      have g0 := hf 0 _ rfl
      have g1 := hf 1 _ rfl
      have g2 := hf 2 _ rfl
      have g3 := hf 3 _ rfl
      simp [c3, c34] at g0 g1 g2 g3
      obtain ⟨k0, e0, _, _⟩ := DataW.trod_int Try.underlying3 g0
      obtain ⟨k1, e1, _, _⟩ := DataW.trod_int Try.underlying3 g1
      obtain ⟨k2, e2, _, _⟩ := DataW.trod_int Try.underlying3 g2
      simp at e0 e1 e2
      subst e0 e1 e2
      have hat0 := hat 0 (by omega)
      have hat1 := hat 1 (by omega)
      have hat2 := hat 2 (by omega)
      have hat3 := hat 3 (by omega)
      simp at hat0 hat1 hat2 hat3
      have hsl : ∃ a l c, v3 = .slice a l c := by
        rcases open_slice Try.underlying23 g3 with ⟨hcs, _⟩ | ⟨a, l, c, _, _, _, _, hcs, _⟩
        · simp at hcs; exact ⟨_, _, _, hcs⟩
        · simp at hcs; exact ⟨_, _, _, hcs⟩
      obtain ⟨a, l, c, rfl⟩ := hsl
      obtain ⟨by_, hs⟩ := src_of_read (enc := enc) (W := W) (a := a) (len := l) (cap := c) (d := y3.1) (p := y3.2) ⟨m, by simpa [Value.cells] using g3⟩
      exact ⟨⟨k0, k1, k2, a, l, c, by_⟩, hat0, hat1, hat2, hat3, hs⟩

theorem calls_of_read {H : Type} {enc : TypeId × Value → H} {W : World} {a : Option Addr} {len cap : Nat} {d : DataW H} {p : List MemPlace}
    (h : DataW.Trod enc Try.prog W 0 (fun _ => true) true 22 (.slice a len cap) d p) : ∃ L, CallsAt W a len L := by
  obtain ⟨fuel, hf⟩ := h
  rcases open_slice Try.underlying22 hf with ⟨hcs, _⟩ | ⟨x, l, c, m, n, D, Pl, hcs, _, hl, hm, hmm, _, hx⟩
  · simp [Value.cells] at hcs
    obtain ⟨rfl, rfl, rfl⟩ := hcs
    exact ⟨[], rfl, by simp, fun h => by omega⟩
  · simp [Value.cells] at hcs
    obtain ⟨rfl, rfl, rfl⟩ := hcs
    have c36 : Try.prog.cellsOf 67 = 4 := by kernel_rfl
    rw [c36] at hx
    have hm' : m = cap := by simpa using hmm
    by_cases h0 : len = 0
    · subst h0; exact ⟨[], rfl, by simp, fun h => by omega⟩
    obtain ⟨b, o, sp0⟩ := x
    have hspot : sp0 = none := by
      obtain ⟨cs', hc, _⟩ := hx 0 (by omega)
      obtain ⟨_, hcl, hat⟩ := World.cells?_some hc
      have h1 := hat 0 (by omega)
      rw [List.getElem?_eq_getElem (by omega)] at h1
      simpa [Addr.add] using World.cell?_spot h1
    subst hspot
    have hb : b < W.heap.size := by
      obtain ⟨cs', hc, _⟩ := hx 0 (by omega)
      obtain ⟨_, hcl, hat⟩ := World.cells?_some hc
      have h1 := hat 0 (by omega)
      rw [List.getElem?_eq_getElem (by omega)] at h1
      have := World.block_lt_of_cell? W _ h1
      simpa [Addr.add] using this
    have hall : ∀ i, i < len → ∃ c, CallAt W b (o + i * 4) c := fun i hi => by
      obtain ⟨cs', hc, ht⟩ := hx i (by omega)
      obtain ⟨_, hcl, hat⟩ := World.cells?_some hc
      refine call_of_cells hcl (fun j hj => ?_) ht
      have := hat j hj
      rw [Addr.add_mid, Addr.add_mid] at this
      exact this
    have : ∀ k, k ≤ len → ∃ L : List CallR, L.length = k ∧ ∀ i c, L[i]? = some c → CallAt W b (o + i * 4) c := by
      intro k
      induction k with
      | zero => intro _; exact ⟨[], rfl, fun i c h => by simp at h⟩
      | succ k ih =>
        intro hk
        obtain ⟨L, hL, hLc⟩ := ih (by omega)
        obtain ⟨c, hc⟩ := hall k (by omega)
        refine ⟨L ++ [c], by simp [hL], fun i c' h => ?_⟩
        rcases Nat.lt_or_ge i L.length with hi | hi
        · rw [List.getElem?_append_left hi] at h; exact hLc i c' h
        · rw [List.getElem?_append_right hi] at h
          have hik : i = k := by
            have := (List.getElem?_eq_some_iff.1 h).1; simp at this; omega
          subst hik
          simp [hL] at h
          subst h
          exact hc
    obtain ⟨L, hL, hLc⟩ := this len (Nat.le_refl _)
    exact ⟨L, hL, by omega, fun _ => ⟨b, o, rfl, hb, hLc⟩⟩

end Go.Proofs.Ytdfnclfmmohpeaa
