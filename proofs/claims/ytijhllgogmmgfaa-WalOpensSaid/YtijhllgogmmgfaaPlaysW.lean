/-
  The laws' helpers Few and Same; the walk of the law DiskPlays: it returns true, whatever its number and calls are, and turns nothing that was there.
-/
import Derived.Test.YtijhllgogmmgfaaDiskH
import Derived.Deep.Slices
import Derived.Deep.Fields
import Derived.Test.YtijhllgogmmgfaaPairA
import Derived.Deep.DeepCutAuto
import Derived.IntWalk
import Derived.Test.YtijhllgogmmgfaaRefE
namespace Go.Proofs.Ytijhllgogmmgfaa
set_option linter.unusedVariables false
set_option maxRecDepth 100000
open Go.RowKit Go.ChangeShapes Go.WideShapes Go.Deep

/-- One raw call: kind, place, number, where its bytes lie, its bytes. -/
structure CallR where
  kind : Int
  at_ : Int
  n : Int
  da : Option Addr
  dlen : Nat
  dcap : Nat
  bytes : List UInt8

/-- Call c lies at block b from offset o on. -/
structure CallAt (w : World) (b o : Nat) (c : CallR) : Prop where
  c0 : w.cell? ⟨b, o, none⟩ = some (.int .i64 c.kind)
  c1 : w.cell? ⟨b, o + 1, none⟩ = some (.int .i64 c.at_)
  c2 : w.cell? ⟨b, o + 2, none⟩ = some (.int .i64 c.n)
  c3 : w.cell? ⟨b, o + 3, none⟩ = some (.slice c.da c.dlen c.dcap)
  src : Src w c.da c.dlen c.bytes

/-- The calls L, a slice. -/
def CallsAt (w : World) (a : Option Addr) (len : Nat) (L : List CallR) : Prop :=
  L.length = len ∧ len ≤ maxLen ∧ (0 < len → ∃ b o, a = some ⟨b, o, none⟩ ∧ b < w.heap.size ∧ ∀ i c, L[i]? = some c → CallAt w b (o + i * 4) c)

theorem CallAt.keep {S : List Nat} {w w' : World} {b o : Nat} {c : CallR} (h : CallAt w b o c) (ho : Only S w w') (B : Nat) (hb : b < B) (hB : B ≤ w.heap.size) (hd : 0 < c.dlen → ∀ x y, c.da = some ⟨x, y, none⟩ → x < B) (hS : ∀ k ∈ S, B ≤ k) : CallAt w' b o c := by
  have hn : b ∉ S := fun hm => by have := hS b hm; omega
  have hlt : b < w.heap.size := by omega
  exact ⟨(ho.cell (p := ⟨b, _, none⟩) hlt hn).trans h.c0, (ho.cell (p := ⟨b, _, none⟩) hlt hn).trans h.c1, (ho.cell (p := ⟨b, _, none⟩) hlt hn).trans h.c2, (ho.cell (p := ⟨b, _, none⟩) hlt hn).trans h.c3,
    h.src.keep ho (fun hp x y e hm => by have := hd hp x y e; have := hS x hm; omega)⟩

/-- What is old stays, whatever new blocks have turned. -/
theorem CallsAt.at_ {w w' : World} {a : Option Addr} {len : Nat} {L : List CallR} (h : CallsAt w a len L) {S : List Nat} (ho : Only S w w') (hS : ∀ k ∈ S, w.heap.size ≤ k) {i : Nat} (hi : i < len) :
    ∃ b o c, a = some ⟨b, o, none⟩ ∧ L[i]? = some c ∧ CallAt w' b (o + i * 4) c ∧ b < w.heap.size ∧ (0 < c.dlen → ∀ x y, c.da = some ⟨x, y, none⟩ → x < w.heap.size) := by
  obtain ⟨hl, _, hf⟩ := h
  obtain ⟨b, o, rfl, hb, hc⟩ := hf (by omega)
  have hL : L[i]? = some (L[i]'(by omega)) := List.getElem?_eq_getElem (by omega)
  have hci := hc i _ hL
  have hdl : 0 < (L[i]'(by omega)).dlen → ∀ x y, (L[i]'(by omega)).da = some ⟨x, y, none⟩ → x < w.heap.size := fun hp x y e => hci.src.lt hp e
  exact ⟨b, o, _, rfl, hL, hci.keep ho w.heap.size hb (Nat.le_refl _) hdl hS, hb, hdl⟩

theorem call_of_cells {H : Type} {enc : TypeId × Value → H} {W : World} {n : Nat} {b o : Nat} {cs : List Value} {x : DataW H × List MemPlace} (hcl : cs.length = 4) (hat : ∀ i, i < 4 → W.cell? ⟨b, o + i, none⟩ = cs[i]?)
    (h : DataW.trod enc Try.prog W 0 (fun _ => true) true n 53 cs = some x) : ∃ c, CallAt W b o c := by
  obtain ⟨xs, m, _, _, _, hlen, hf⟩ := DataW.trod_struct Try.underlying53 h
  match cs, hcl with
  | [v0, v1, v2, v3], _ =>
    match xs, hlen with
    | [y0, y1, y2, y3], _ =>
      have c3 : Try.prog.cellsOf 3 = 1 := by kernel_rfl
      have c34 : Try.prog.cellsOf 23 = 1 := by kernel_rfl
      have g0 := hf 0 _ rfl
      have g1 := hf 1 _ rfl
      have g2 := hf 2 _ rfl
      have g3 := hf 3 _ rfl
      simp [c3, c34] at g0 g1 g2 g3
      obtain ⟨k0, e0, _, _⟩ := DataW.trod_int Try.underlying3 g0
      obtain ⟨k1, e1, _, _⟩ := DataW.trod_int Try.underlying3 g1
      obtain ⟨k2, e2, _, _⟩ := DataW.trod_int Try.underlying3 g2
      simp at e0 e1 e2
      subst e0 e1 e2
      have hat0 := hat 0 (by omega)
      have hat1 := hat 1 (by omega)
      have hat2 := hat 2 (by omega)
      have hat3 := hat 3 (by omega)
      simp at hat0 hat1 hat2 hat3
      have hsl : ∃ a l c, v3 = .slice a l c := by
        rcases open_slice Try.underlying23 g3 with ⟨hcs, _⟩ | ⟨a, l, c, _, _, _, _, hcs, _⟩
        · simp at hcs; exact ⟨_, _, _, hcs⟩
        · simp at hcs; exact ⟨_, _, _, hcs⟩
      obtain ⟨a, l, c, rfl⟩ := hsl
      obtain ⟨by_, hs⟩ := src_of_read (enc := enc) (W := W) (a := a) (len := l) (cap := c) (d := y3.1) (p := y3.2) ⟨m, by simpa [Value.cells] using g3⟩
      exact ⟨⟨k0, k1, k2, a, l, c, by_⟩, hat0, hat1, hat2, hat3, hs⟩

theorem calls_of_read {H : Type} {enc : TypeId × Value → H} {W : World} {a : Option Addr} {len cap : Nat} {d : DataW H} {p : List MemPlace}
    (h : DataW.Trod enc Try.prog W 0 (fun _ => true) true 22 (.slice a len cap) d p) : ∃ L, CallsAt W a len L := by
  obtain ⟨fuel, hf⟩ := h
  rcases open_slice Try.underlying22 hf with ⟨hcs, _⟩ | ⟨x, l, c, m, n, D, Pl, hcs, _, hl, hm, hmm, _, hx⟩
  · simp [Value.cells] at hcs
    obtain ⟨rfl, rfl, rfl⟩ := hcs
    exact ⟨[], rfl, by simp, fun h => by omega⟩
  · simp [Value.cells] at hcs
    obtain ⟨rfl, rfl, rfl⟩ := hcs
    have c36 : Try.prog.cellsOf 53 = 4 := by kernel_rfl
    rw [c36] at hx
    have hm' : m = cap := by simpa using hmm
    by_cases h0 : len = 0
    · subst h0; exact ⟨[], rfl, by simp, fun h => by omega⟩
    obtain ⟨b, o, sp0⟩ := x
    have hspot : sp0 = none := by
      obtain ⟨cs', hc, _⟩ := hx 0 (by omega)
      obtain ⟨_, hcl, hat⟩ := World.cells?_some hc
      have h1 := hat 0 (by omega)
      rw [List.getElem?_eq_getElem (by omega)] at h1
      simpa [Addr.add] using World.cell?_spot h1
    subst hspot
    have hb : b < W.heap.size := by
      obtain ⟨cs', hc, _⟩ := hx 0 (by omega)
      obtain ⟨_, hcl, hat⟩ := World.cells?_some hc
      have h1 := hat 0 (by omega)
      rw [List.getElem?_eq_getElem (by omega)] at h1
      have := World.block_lt_of_cell? W _ h1
      simpa [Addr.add] using this
    have hall : ∀ i, i < len → ∃ c, CallAt W b (o + i * 4) c := fun i hi => by
      obtain ⟨cs', hc, ht⟩ := hx i (by omega)
      obtain ⟨_, hcl, hat⟩ := World.cells?_some hc
      refine call_of_cells hcl (fun j hj => ?_) ht
      have := hat j hj
      rw [Addr.add_mid, Addr.add_mid] at this
      exact this
    have : ∀ k, k ≤ len → ∃ L : List CallR, L.length = k ∧ ∀ i c, L[i]? = some c → CallAt W b (o + i * 4) c := by
      intro k
      induction k with
      | zero => intro _; exact ⟨[], rfl, fun i c h => by simp at h⟩
      | succ k ih =>
        intro hk
        obtain ⟨L, hL, hLc⟩ := ih (by omega)
        obtain ⟨c, hc⟩ := hall k (by omega)
        refine ⟨L ++ [c], by simp [hL], fun i c' h => ?_⟩
        rcases Nat.lt_or_ge i L.length with hi | hi
        · rw [List.getElem?_append_left hi] at h; exact hLc i c' h
        · rw [List.getElem?_append_right hi] at h
          have hik : i = k := by
            have := (List.getElem?_eq_some_iff.1 h).1; simp at this; omega
          subst hik
          simp [hL] at h
          subst h
          exact hc
    obtain ⟨L, hL, hLc⟩ := this len (Nat.le_refl _)
    exact ⟨L, hL, by omega, fun _ => ⟨b, o, rfl, hb, hLc⟩⟩

end Go.Proofs.Ytijhllgogmmgfaa
namespace Go.Proofs.Ytijhllgogmmgfaa
set_option linter.unusedVariables false
set_option maxRecDepth 100000
open Go.RowKit

/-- Both disks, alike; numbers up to K. -/
structure PairAt (w : World) (p bl bm B : Nat) (R : RefP) (D : DS) (K : Int) : Prop where
  disk : DiskAt w p bl bm D
  ref : RefAt w B R (refOf D)
  calm : D.calm K
  pB : p < B
  lB : bl < B
  mB : bm < B

theorem own_ge {w : World} {B : Nat} {R : RefP} {E : RS} (h : RefAt w B R E) : ∀ k ∈ R.own, B ≤ k := by
  intro k hk; simp [RefP.own] at hk
  rcases hk with rfl | rfl | rfl | rfl
  · exact h.gq
  · exact h.gN
  · exact h.gL
  · exact h.gB
theorem own_lt {w : World} {B : Nat} {R : RefP} {E : RS} (h : RefAt w B R E) : ∀ k ∈ R.own, k < w.heap.size := by
  intro k hk; simp [RefP.own] at hk
  rcases hk with rfl | rfl | rfl | rfl
  · exact h.lq
  · exact h.lN
  · exact h.lL
  · exact h.lB
theorem PairAt.more {w w' : World} {p bl bm B : Nat} {R : RefP} {D : DS} {K : Int} (h : PairAt w p bl bm B R D K) (ho : Only [] w w') : PairAt w' p bl bm B R D K :=
  ⟨h.disk.more ho, h.ref.more ho, h.calm, h.pB, h.lB, h.mB⟩

def BothOk (w : World) (p bl bm B : Nat) (R : RefP) (n : Nat) (K : Int) (v : Value) (e : Ending) (w' : World) : Prop :=
  e = .returned v ∧ (∃ D, PairAt w' p bl bm B R D K ∧ D.n = n) ∧ Only ([p, bl, bm] ++ R.own) w w'

theorem writeR_n (D : DS) (x : Int) (l : List UInt8) : (D.writeR x l).1.n = D.n := by
  unfold DS.writeR
  split
  · rfl
  split
  · rfl
  split <;> rfl
theorem flushR_n (D : DS) : D.flushR.1.n = D.n := by
  unfold DS.flushR
  split
  · rfl
  split <;> rfl
theorem burnt_ok {f : Int} (h : -1 ≤ f) (_h0 : f ≠ 0) : -1 ≤ burnt f ∧ burnt f ≤ f := by unfold burnt; split <;> omega
theorem writeR_calm {D : DS} {K : Int} (h : D.calm K) (x : Int) (l : List UInt8) : (D.writeR x l).1.calm (K + 1) := by
  obtain ⟨h1, h2, h3, h4⟩ := h
  unfold DS.writeR
  split
  · exact ⟨h1, h2, h3, by show D.ops ≤ K + 1; omega⟩
  split
  · exact ⟨h1, h2, h3, by show D.ops ≤ K + 1; omega⟩
  split
  · exact ⟨by show (-1 : Int) ≤ 0; omega, by show (0 : Int) < 1000; omega, h3, by show D.ops ≤ K + 1; omega⟩
  · rename_i hf
    have := burnt_ok h1 hf
    exact ⟨this.1, by show burnt D.fuse < 1000; omega, by show 0 ≤ D.ops + 1; omega, by show D.ops + 1 ≤ K + 1; omega⟩
theorem flushR_calm {D : DS} {K : Int} (h : D.calm K) : D.flushR.1.calm (K + 1) := by
  obtain ⟨h1, h2, h3, h4⟩ := h
  unfold DS.flushR
  split
  · exact ⟨h1, h2, h3, by show D.ops ≤ K + 1; omega⟩
  split
  · exact ⟨by show (-1 : Int) ≤ 0; omega, by show (0 : Int) < 1000; omega, h3, by show D.ops ≤ K + 1; omega⟩
  · rename_i hf
    have := burnt_ok h1 hf
    exact ⟨this.1, by show burnt D.fuse < 1000; omega, by show 0 ≤ D.ops + 1; omega, by show D.ops + 1 ≤ K + 1; omega⟩
theorem fuseR_calm {D : DS} {K : Int} (h : D.calm K) (x : Int) (hx : x < 1000) : (D.fuseR x).calm (K + 1) := by
  obtain ⟨h1, h2, h3, h4⟩ := h
  unfold DS.fuseR
  split
  · exact ⟨by show (-1 : Int) ≤ -1; omega, by show (-1 : Int) < 1000; omega, h3, by show D.ops ≤ K + 1; omega⟩
  · exact ⟨by show -1 ≤ x; omega, hx, h3, by show D.ops ≤ K + 1; omega⟩
theorem crashed_calm {D : DS} {K : Int} (h : D.calm K) (l : List UInt8) : (D.crashed l).calm (K + 1) := by
  obtain ⟨h1, h2, h3, h4⟩ := h
  exact ⟨by show (-1 : Int) ≤ -1; omega, by show (-1 : Int) < 1000; omega, h3, by show D.ops ≤ K + 1; omega⟩
theorem calm_succ {D : DS} {K : Int} (h : D.calm K) : D.calm (K + 1) := ⟨h.1, h.2.1, h.2.2.1, by have := h.2.2.2; omega⟩

/-- Behind the first half of a call: the disk has gone on, the other one not yet. -/
structure HalfAt (w : World) (p bl bm B : Nat) (R : RefP) (D D' : DS) : Prop where
  disk : DiskAt w p bl bm D'
  ref : RefAt w B R (refOf D)

theorem PairAt.half {w w' : World} {p bl bm B : Nat} {R : RefP} {D D' : DS} {K : Int} (h : PairAt w p bl bm B R D K) (hD : DiskAt w' p bl bm D') (hO : Only [p, bl, bm] w w') : HalfAt w' p bl bm B R D D' :=
  ⟨hD, h.ref.keep hO (by have := h.pB; have := h.lB; have := h.mB; simp; omega)⟩
theorem HalfAt.whole {w w' : World} {p bl bm B : Nat} {R : RefP} {D D' : DS} {K : Int} (h : HalfAt w p bl bm B R D D') (hR : RefAt w' B R (refOf D')) (hO : Only R.own w w') (hc : D'.calm K) (h1 : p < B) (h2 : bl < B) (h3 : bm < B) : PairAt w' p bl bm B R D' K :=
  ⟨h.disk.keep hO (fun hm => by have := own_ge h.ref p hm; omega) (fun hm => by have := own_ge h.ref bl hm; omega) (fun hm => by have := own_ge h.ref bm hm; omega), hR, hc, h1, h2, h3⟩
theorem HalfAt.more {w w' : World} {p bl bm B : Nat} {R : RefP} {D D' : DS} (h : HalfAt w p bl bm B R D D') (ho : Only [] w w') : HalfAt w' p bl bm B R D D' := ⟨h.disk.more ho, h.ref.more ho⟩

theorem psize (w : World) (B : Nat) (R : RefP) (D : DS) (h : RefAt w B R (refOf D)) :
    Calls Try.prog 22 #[.pointer (some ⟨R.q, 0, none⟩)] w fun e w' => e = .returned (.int .i64 D.n) ∧ w = w' := rsize_any w B R (refOf D) h
theorem pops (w : World) (B : Nat) (R : RefP) (D : DS) (h : RefAt w B R (refOf D)) :
    Calls Try.prog 13 #[.pointer (some ⟨R.q, 0, none⟩)] w fun e w' => e = .returned (.int .i64 D.ops) ∧ w = w' := rops_any w B R (refOf D) h
theorem empty_str (w : World) : (convert 23 9 (.slice none 0 0)).run Try.prog w = .ok (.string ByteArray.empty) w :=
  run_convert_bytes_nil (P := Try.prog) w 23 5 Try.underlying23 Try.underlying5 0 0 9 Try.underlying9

end Go.Proofs.Ytijhllgogmmgfaa
namespace Go.Proofs.Ytijhllgogmmgfaa
set_option linter.unusedVariables false
set_option maxRecDepth 100000
open Go.RowKit

def SameOk (w : World) (e : Ending) (w' : World) : Prop := e = .returned (.bool true) ∧ Only [] w w'

set_option maxHeartbeats 2000000 in
theorem same_any (w : World) (p bl bm B : Nat) (R : RefP) (D : DS) (K : Int) (h : PairAt w p bl bm B R D K) :
    Calls Try.prog 18 #[.pointer (some ⟨p, 0, none⟩), .pointer (some ⟨R.q, 0, none⟩)] w (SameOk w) := by
  have hsm := h.disk.small
  have hstr := empty_str
  have H := Lib.hid h
  clear h
  go_enter Try.func18, Try.ntmps18
  go_wp2_with fail
  go_loopw [5] (fun i wr => ∃ k : Nat, k ≤ D.n + 2 ∧ i = .int .i64 ((k : Int) - 1) ∧ Only [] w wr) (fun i _ => D.n + 2 - ((intOf i) + 1).toNat)
  case atStart => exact ⟨0, by omega, rfl, Only.refl _ _⟩
  case round =>
    obtain ⟨k, hk, rfl, hOk⟩ := hrel
    have hPk := H.out.more hOk
    have HP := Lib.hid hPk
    clear hPk
    by_cases hlt : k < D.n + 2
    · have hlti : (k : Int) - 1 ≤ (D.n : Int) := by omega
      go_wp2_with fail
      refine (psize _ B R D HP.out.ref).mono ?_
      rintro e w' ⟨rfl, rfl⟩
      cases hdd : D.dead with
      | true =>
        have Hdd := Lib.hid hdd
        clear hdd
        go_wp2_with fail
        refine (read_dead _ p bl bm D _ HP.out.disk Hdd.out).mono ?_
        rintro e w' ⟨rfl, rfl⟩
        go_wp2_with fail
        refine (rread_dead _ B R (refOf D) _ HP.out.ref Hdd.out).mono ?_
        rintro e w' ⟨rfl, rfl⟩
        go_wp2
        exact ⟨⟨k + 1, by omega, by go_num, hOk⟩, by simp [intOf]; omega⟩
      | false =>
        have Hdd := Lib.hid hdd
        clear hdd
        cases hh : hasB ((k : Int) - 1) D.n with
        | false =>
          have Hhh := Lib.hid hh
          clear hh
          go_wp2_with fail
          refine (read_none _ p bl bm D _ HP.out.disk Hdd.out Hhh.out).mono ?_
          rintro e w' ⟨rfl, rfl⟩
          go_wp2_with fail
          refine (rread_none _ B R (refOf D) _ HP.out.ref Hdd.out Hhh.out).mono ?_
          rintro e w' ⟨rfl, rfl⟩
          go_wp2
          exact ⟨⟨k + 1, by omega, by go_num, hOk⟩, by simp [intOf]; omega⟩
        | true =>
          have hnx : 0 ≤ (k : Int) - 1 ∧ (k : Int) - 1 < D.n := by simpa [hasB] using hh
          obtain ⟨X, hX1⟩ := Int.eq_ofNat_of_zero_le hnx.1
          have hX : X < D.n := by omega
          have hkX : k = X + 1 := by omega
          clear hh hnx
          subst hkX
          have eX : (((X + 1 : Nat) : Int) - 1) = (X : Int) := by omega
          rw [eX] at *
          clear eX hX1
          go_wp2_with fail
          refine (read_ok _ p bl bm D X HP.out.disk Hdd.out hX).mono ?_
          rintro e w3 ⟨g3, rfl, hb3, hg3, hO3⟩
          have hlen : (D.now X).length = 64 := by obtain ⟨_, _, _, _, _, _, hl⟩ := HP.out.ref.now X hX; exact hl
          have hP3 := HP.out.more hO3
          go_wp2_with fail
          refine (rread_ok _ B R (refOf D) X hP3.ref Hdd.out hX).mono ?_
          rintro e w4 ⟨g4, c4, rfl, hr4, hg4, hlt4, hO4⟩
          have q1 := conv_str w4 g3 0 64 64 (D.now X) hlen (blk_range (hb3.only hO4 (by simp)))
          have q2 := conv_str w4 g4 0 c4 64 (D.now X) hlen hr4
          generalize D.now X = bx at *
          have hOn := (hOk.andMore hO3).andMore hO4
          clear hb3 hP3 hr4 hlen hO3 hO4
          go_wp2
          exact ⟨⟨X + 1 + 1, by omega, by go_num, hOn⟩, by simp [intOf]; omega⟩
    · have hge : ¬ ((k : Int) - 1 ≤ (D.n : Int)) := by omega
      go_wp2_with fail
      refine (psize _ B R D HP.out.ref).mono ?_
      rintro e w' ⟨rfl, rfl⟩
      go_wp2_with fail
      refine (size_any _ p bl _ bm _ _ _ HP.out.disk.blk).mono ?_
      rintro e w' ⟨rfl, rfl⟩
      go_wp2_with fail
      refine (psize _ B R D HP.out.ref).mono ?_
      rintro e w' ⟨rfl, rfl⟩
      go_wp2
      go_ret
      exact ⟨rfl, hOk⟩

theorem ref_new (n : Nat) : refOf (newDS n) = { n := n, now := fun _ => zeros, last := fun _ => zeros, new := fun _ => false, dead := false, left := -1, ops := 0 } := rfl
theorem pair_new {w1 w2 : World} {p bl bm n : Nat} {R : RefP} (hD : DiskAt w1 p bl bm (newDS n)) (hR : RefAt w2 w1.heap.size R { n := n, now := fun _ => zeros, last := fun _ => zeros, new := fun _ => false, dead := false, left := -1, ops := 0 }) (hO : Only [] w1 w2) :
    PairAt w2 p bl bm w1.heap.size R (newDS n) 0 :=
  ⟨hD.more hO, by rw [ref_new]; exact hR, ⟨by show (-1 : Int) ≤ -1; omega, by show (-1 : Int) < 1000; omega, by show (0 : Int) ≤ 0; omega, by show (0 : Int) ≤ 0; omega⟩, hD.plt, hD.blt, hD.mlt⟩

end Go.Proofs.Ytijhllgogmmgfaa
