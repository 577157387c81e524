/-
  The document's own disk: Read and Write by their contracts.
-/
import Derived.Test.YtijhllgogmmgfaaRefA
namespace Go.Proofs.Ytijhllgogmmgfaa
set_option linter.unusedVariables false
set_option maxRecDepth 100000
open Go.RowKit

theorem cell_far {w : World} {k b i j : Nat} (v : Value) (h : k ≠ b) : (w.setCell ⟨b, i, none⟩ v).cell? ⟨k, j, none⟩ = w.cell? ⟨k, j, none⟩ :=
  World.cell?_setCell_other _ _ _ _ (fun e => h (by injection e with e1; exact e1.symm))
/-- A copy of a sector in new memory. -/
def RMade (w : World) (b : List UInt8) (x : Int) (e : Ending) (w' : World) : Prop :=
  ∃ g c, e = .returned (.tuple #[.slice (some ⟨g, 0, none⟩) 64 c, .int .i64 x]) ∧ w'.rangeAt g 0 (bv b) ∧ w.heap.size ≤ g ∧ g < w'.heap.size ∧ Only [] w w'

theorem empty_bytes (w : World) : (Instr.buildSlice 23 0 #[]).run Try.prog w = .ok (.slice (some ⟨w.heap.size, 0, none⟩) 0 0) (w.alloc (.cells #[] 5)) := by kernel_rfl

set_option maxHeartbeats 400000 in
theorem rread_dead (w : World) (B : Nat) (R : RefP) (D : RS) (x : Int) (h : RefAt w B R D) (hd : D.dead = true) :
    Calls Try.prog 34 #[.pointer (some ⟨R.q, 0, none⟩), .int .i64 x] w fun e w' => e = .returned (.tuple #[.slice none 0 0, .int .i64 3]) ∧ w = w' := by
  have c3 := h.c3
  rw [hd] at c3
  clear hd h
  go_enter Try.func34, Try.ntmps34
  go_wp2
  go_ret2
  exact ⟨rfl, rfl⟩

set_option maxHeartbeats 400000 in
theorem rread_none (w : World) (B : Nat) (R : RefP) (D : RS) (x : Int) (h : RefAt w B R D) (hd : D.dead = false) (hx : hasB x D.n = false) :
    Calls Try.prog 34 #[.pointer (some ⟨R.q, 0, none⟩), .int .i64 x] w fun e w' => e = .returned (.tuple #[.slice none 0 0, .int .i64 1]) ∧ w = w' := by
  have c3 := h.c3
  rw [hd] at c3
  have c0 := h.c0
  clear hd h
  by_cases h0 : x < 0
  · have t0 : decide (x < 0) = true := by simpa using h0
    clear hx
    go_enter Try.func34, Try.ntmps34
    go_wp2
    go_ret2
    exact ⟨rfl, rfl⟩
  · have t0 : decide (x < 0) = false := by simpa using h0
    have t1 : (D.n : Int) ≤ x := by simp [hasB] at hx; omega
    clear hx
    go_enter Try.func34, Try.ntmps34
    go_wp2
    go_ret2
    exact ⟨rfl, rfl⟩

set_option maxHeartbeats 1000000 in
theorem rread_ok (w : World) (B : Nat) (R : RefP) (D : RS) (x : Nat) (h : RefAt w B R D) (hd : D.dead = false) (hx : x < D.n) :
    Calls Try.prog 34 #[.pointer (some ⟨R.q, 0, none⟩), .int .i64 x] w (RMade w (D.now x) 0) := by
  have c3 := h.c3
  rw [hd] at c3
  have c0 := h.c0
  obtain ⟨gi, ci, hc, hB, hlt, hr, hl⟩ := h.now x hx
  have hlq := h.lq
  have hlN := h.lN
  have hsm := h.small
  have t0 : decide ((x : Int) < 0) = false := by simp
  have t1 : (x : Int) < (D.n : Int) := by omega
  have hes := empty_bytes
  generalize D.now x = b at *
  have Hr := Lib.hid hr
  have Hl := Lib.hid hl
  clear hd h hr hl
  go_enter Try.func34, Try.ntmps34
  go_wp2_with (refine wpList_app b Hl.out rfl _ _ rfl _ rfl (IsBlk.made _ _) _ _ _ rfl (World.rangeAt_alloc Hr.out _) ?_; intro g' c' w' hge hr' hlt' hO')
  go_ret2
  exact ⟨g', c', rfl, hr', hge, hlt', (((Only.refl [] w).alloc _).trans hO').into (by simp)⟩

set_option maxHeartbeats 400000 in
theorem rwrite_dead (w : World) (B : Nat) (R : RefP) (D : RS) (x : Int) (s : Value) (h : RefAt w B R D) (hd : D.dead = true) :
    Calls Try.prog 26 #[.pointer (some ⟨R.q, 0, none⟩), .int .i64 x, s] w fun e w' => e = .returned (.int .i64 3) ∧ w = w' := by
  have c3 := h.c3
  rw [hd] at c3
  clear hd h
  go_enter Try.func26, Try.ntmps26
  go_wp2
  go_ret
  exact ⟨rfl, rfl⟩

set_option maxHeartbeats 1000000 in
theorem rwrite_bad (w : World) (B : Nat) (R : RefP) (D : RS) (x : Int) (a : Option Addr) (m c : Nat) (h : RefAt w B R D) (hd : D.dead = false) (hbad : badW x D.n m = true) :
    Calls Try.prog 26 #[.pointer (some ⟨R.q, 0, none⟩), .int .i64 x, .slice a m c] w fun e w' => e = .returned (.int .i64 1) ∧ w = w' := by
  have c3 := h.c3
  rw [hd] at c3
  have c0 := h.c0
  clear hd h
  by_cases h0 : x < 0
  · have t0 : decide (x < 0) = true := by simpa using h0
    clear hbad
    go_enter Try.func26, Try.ntmps26
    go_wp2
    go_ret
    exact ⟨rfl, rfl⟩
  have t0 : decide (x < 0) = false := by simpa using h0
  by_cases h1 : (D.n : Int) ≤ x
  · have t1 : decide ((D.n : Int) ≤ x) = true := by simpa using h1
    clear hbad
    go_enter Try.func26, Try.ntmps26
    go_wp2
    go_ret
    exact ⟨rfl, rfl⟩
  · have t1 : decide ((D.n : Int) ≤ x) = false := by simpa using h1
    have hh : hasB x D.n = true := by simp [hasB]; omega
    have hm : ((m : Int) != 64) = true := by simp [badW, hh] at hbad; simp; omega
    clear hbad hh
    go_enter Try.func26, Try.ntmps26
    go_wp2
    go_ret
    exact ⟨rfl, rfl⟩

set_option maxHeartbeats 1000000 in
theorem rwrite_spent (w : World) (B : Nat) (R : RefP) (D : RS) (x : Nat) (a : Option Addr) (c : Nat) (h : RefAt w B R D) (hd : D.dead = false) (hx : x < D.n) (hl : D.left = 0) :
    Calls Try.prog 26 #[.pointer (some ⟨R.q, 0, none⟩), .int .i64 x, .slice a 64 c] w (RefOk w B R { D with dead := true, left := 0, ops := D.ops } (.int .i64 3)) := by
  have c3 := h.c3
  rw [hd] at c3
  have c0 := h.c0
  have t0 : decide ((x : Int) < 0) = false := by simp
  have t1 : decide ((D.n : Int) ≤ (x : Int)) = false := by simp; omega
  have H := Lib.hid h
  have Hl := Lib.hid hl
  clear hd h hl
  go_enter Try.func26, Try.ntmps26
  go_wp2_with (go_at_call 50; refine (spend_no _ B R D H.out Hl.out).mono ?_; rintro e w1 ⟨rfl, hR1, hO1⟩)
  go_ret
  exact ⟨rfl, hR1, hO1⟩

/-- What a write leaves. -/
def RS.put (D : RS) (l k : Int) (x : Nat) (b : List UInt8) : RS := { D with left := l, ops := k, now := fun i => if i = x then b else D.now i, new := fun i => if i = x then true else D.new i }

set_option maxHeartbeats 1000000 in
theorem rwrite_ok (w : World) (B : Nat) (R : RefP) (D : RS) (x g o c : Nat) (b : List UInt8) (h : RefAt w B R D) (hd : D.dead = false) (hx : x < D.n) (hl : D.left ≠ 0) (hl0 : -1 ≤ D.left) (hl1 : D.left < 1000000000000) (hk0 : 0 ≤ D.ops) (hk : D.ops < 1000000000000)
    (hb : b.length = 64) (hr : w.rangeAt g o (bv b)) (hg : g < w.heap.size) (hgR : g ∉ R.own) :
    Calls Try.prog 26 #[.pointer (some ⟨R.q, 0, none⟩), .int .i64 x, .slice (some ⟨g, o, none⟩) 64 c] w (RefOk w B R (D.put (burnt D.left) (D.ops + 1) x b) (.int .i64 0)) := by
  have c3 := h.c3
  rw [hd] at c3
  have c0 := h.c0
  have t0 : decide ((x : Int) < 0) = false := by simp
  have t1 : decide ((D.n : Int) ≤ (x : Int)) = false := by simp; omega
  have t2 : (x : Int) < (D.n : Int) := by omega
  have hes := empty_bytes
  have H := Lib.hid h
  have Hl := Lib.hid hl
  have Hb := Lib.hid hb
  have Hr := Lib.hid hr
  clear hd h hl hb hr
  go_enter Try.func26, Try.ntmps26
  go_wp2_with (go_at_call 50; refine (spend_ok _ B R D H.out Hl.out hl0 hl1 hk0 hk).mono ?_; rintro e w1 ⟨rfl, hR1, hO1⟩)
  have c0' := hR1.c0
  have hlq := hR1.lq
  have hlN := hR1.lN
  have hgt : g < w1.heap.size := Nat.lt_of_lt_of_le hg hO1.size
  obtain ⟨gx, cx, hcx, _⟩ := hR1.now x hx
  have hfx := hR1.fN x
  have hr1 := rangeAt_only Hr.out hO1 hg hgR
  have Hr1 := Lib.hid hr1
  have HR1 := Lib.hid hR1
  have HgR := Lib.hid hgR
  have HqN := Lib.hid HR1.out.qN
  clear hr1 hR1 c0 c3 Hr H hgR
  go_region_held3 (fun W => W.cell? ⟨R.q, 0, none⟩ = some (.slice (some ⟨R.gN, 0, none⟩) D.n R.cN)) (first | assumption | go_keep | (rw [cell_far _ HqN.out]; assumption))
    (first
      | (refine step_app b Hb.out rfl _ _ rfl _ rfl ?_ _ _ _ rfl ?_ ?_
         (first | exact IsBlk.made _ _ | exact (IsBlk.made _ _).drew)
         (simp only [World.rangeAt_drew]; exact World.rangeAt_alloc Hr1.out _)
         intro g' c' w' hge hr' hlt' hO'
         have hO2 : Only [] w1 w' := ((((Only.refl [] w1).alloc (.cells #[] 5)).drew).trans hO').into (by simp)
         have hq' := (HR1.out.more hO2).c0
         have hcx' := (hO2.cell (p := ⟨R.gN, x, none⟩) hlN (by simp)).trans hcx
         have hfx' := (hO2.frozen (p := ⟨R.gN, x, none⟩) hlN (by simp)).trans hfx))
  have hR2 := HR1.out.more hO2
  have hR3 := hR2.putNow x g' c' b hx (by have := HR1.out.gq; omega) hlt' hr' Hb.out
  have hO3 : Only R.own w (w'.setCell ⟨R.gN, x, none⟩ (.slice (some ⟨g', 0, none⟩) 64 c')) := (hO1.andMore hO2).setCell (by simp [RefP.own]) _
  clear hq' hcx' hfx'
  generalize w'.setCell ⟨R.gN, x, none⟩ (.slice (some ⟨g', 0, none⟩) 64 c') = w3 at *
  have c2 := hR3.c2
  have hnx := hR3.new x hx
  have hfb := hR3.fB x
  have hR4 := hR3.putNew x true hx
  have hO4 := hO3.setCell (p := ⟨R.gB, x, none⟩) (by simp [RefP.own]) (.bool true)
  have HR4 := Lib.hid hR4
  clear hR2 hR3 hR4 hO1 hO2 hO' HR1 Hr1 hr'
  go_wp2
  go_ret
  exact ⟨rfl, HR4.out, hO4⟩

end Go.Proofs.Ytijhllgogmmgfaa
