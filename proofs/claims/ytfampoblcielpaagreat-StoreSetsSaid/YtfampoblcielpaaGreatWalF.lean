/-
  What Open finds, by chapter 3 itself; the function Open of the package wal, by a contract.
-/
import Derived.Test.YtfampoblcielpaaGreatWalE
import Derived.Defers
namespace Go.Proofs.YtfampoblcielpaaGreat
set_option maxRecDepth 100000
set_option linter.unusedVariables false
open Go.RowKit

/-- The log's records, and where they end. -/
def foundM (S : Secs) (size : Nat) : List (List UInt8) × Nat × Int :=
  let c := chooseM (halfP S 0 size) (halfP S size size)
  if c.1 = 0 then ([], 0, 0) else followM (halfP S (c.2 * size) size) c.1 (size + 1) 0 0
def openL (S : Secs) (size : Nat) : LS :=
  let c := chooseM (halfP S 0 size) (halfP S size size)
  { size := size, top := topM (topM 0 (halfP S 0 size)) (halfP S size size), gen := c.1, half := c.2, next := (foundM S size).2.1, seq := (foundM S size).2.2 }

/-- What Open answers. -/
def OpenTo (w : World) (pd bl bm : Nat) (D : DS) (e : Ending) (w' : World) : Prop :=
  ∃ lp a cap, e = .returned (.tuple #[.pointer (some ⟨lp, 0, none⟩), .slice a (foundM D.now (D.n / 2)).1.length cap, .int .i64 0]) ∧ LogAt w' lp pd (openL D.now (D.n / 2)) ∧ DiskAt w' pd bl bm D ∧ (BytesAt w' a (foundM D.now (D.n / 2)).1.length (foundM D.now (D.n / 2)).1 ∧ (foundM D.now (D.n / 2)).1.length ≤ cap) ∧ w.heap.size ≤ lp ∧ Only [] w w'

set_option maxHeartbeats 2000000 in
theorem open_done (q r s : Nat) (u : FrameMode) (w : World) (h : w.cell? ⟨q, 0, none⟩ = some (.int .i64 0)) :
    CallsD Tryz.prog 28 #[.pointer (some ⟨q, 0, none⟩), .pointer (some ⟨r, 0, none⟩), .pointer (some ⟨s, 0, none⟩)] u w fun e u' w' => u' = u ∧ (e = .returned (.tuple #[]) ∧ w' = w) := by
  go_enter_d Tryz.func28, Tryz.ntmps28
  go_wp2
  go_end0
  exact ⟨rfl, rfl⟩

theorem follow_all (w : World) (T : List Nat) (hT : ∀ k ∈ T, k < w.heap.size) (lp pd gl n : Nat) (hlT : lp ∈ T) (L : LS) (ps : List PartM) (h : LogAt w lp pd L) (hn : L.next = 0) (hq : L.seq = 0) (hps : ∀ i p, ps[i]? = some p → PartN w gl (i * 5) p) (hs : Sane ps) (hlen : ps.length = n) (hn256 : n ≤ 256)
    (hgl : gl < w.heap.size) (hlp : lp < gl) :
    Calls Tryz.prog 32 #[.pointer (some ⟨lp, 0, none⟩), .slice (some ⟨gl, 0, none⟩) n n] w (FollowTo w T lp pd L (if L.gen = 0 then ([], 0, 0) else followM ps L.gen (n + 1) 0 0)) := by
  have h' : LogAt w lp pd { L with next := 0, seq := 0 } := by rw [← hn, ← hq]; exact h
  by_cases hg : L.gen = 0
  · rw [if_pos hg]
    refine (follow_none w lp pd L _ h hg).mono ?_
    rintro e w' ⟨rfl, rfl⟩
    exact ⟨_, rfl, OwnBs.nil _ _ _, h', Only.refl _ _⟩
  · rw [if_neg hg]
    subst hlen
    exact follow_any w T hT lp pd gl ps.length hlT L ps h' hg hps hs hn256 (Nat.le_refl _) hgl hlp

/-- What Open works on. -/
structure OS (w W : World) (q lp ga pd bl bm : Nat) (D : DS) (L : LS) (s0 s1 rv : Value) : Prop where
  r0 : IsBlk W q (.cells #[.pointer (some ⟨lp, 0, none⟩)] 52)
  r1 : IsBlk W (q + 1) (.cells #[rv] 53)
  r2 : IsBlk W (q + 1 + 1) (.cells #[.int .i64 0] 31)
  arr : IsBlk W ga (.cells #[s0, s1] 80)
  log : LogAt W lp pd L
  disk : DiskAt W pd bl bm D
  only : Only [] w W
  lq : w.heap.size ≤ q
  ql : q + 2 < lp
  la : lp < ga
  pdl : pd < w.heap.size
  bll : bl < w.heap.size
  bml : bm < w.heap.size

section
variable {w W W' : World} {q lp ga pd bl bm : Nat} {D : DS} {L L' : LS} {s0 s1 rv : Value}
theorem OS.same (h : OS w W q lp ga pd bl bm D L s0 s1 rv) (hO : Only [] W W') : OS w W' q lp ga pd bl bm D L s0 s1 rv :=
  ⟨h.r0.only hO (by simp), h.r1.only hO (by simp), h.r2.only hO (by simp), h.arr.only hO (by simp), h.log.more hO, h.disk.more hO, h.only.plus hO, h.lq, h.ql, h.la, h.pdl, h.bll, h.bml⟩
theorem OS.logged (h : OS w W q lp ga pd bl bm D L s0 s1 rv) (hO : Only [lp] W W') (hL : LogAt W' lp pd L') : OS w W' q lp ga pd bl bm D L' s0 s1 rv := by
  have h1 := h.lq; have h2 := h.ql; have h3 := h.la; have h4 := h.pdl; have h5 := h.bll; have h6 := h.bml
  exact ⟨h.r0.only hO (by simp; omega), h.r1.only hO (by simp; omega), h.r2.only hO (by simp; omega), h.arr.only hO (by simp; omega), hL, h.disk.keep hO (by simp; omega) (by simp; omega) (by simp; omega), h.only.then hO [] (by simp) (by simp; omega), h.lq, h.ql, h.la, h.pdl, h.bll, h.bml⟩
theorem OS.put0 (h : OS w W q lp ga pd bl bm D L s0 s1 rv) (v : Value) : OS w (W.setCell ⟨ga, 0, none⟩ v) q lp ga pd bl bm D L v s1 rv := by
  have h1 := h.lq; have h2 := h.ql; have h3 := h.la; have h4 := h.pdl; have h5 := h.bll; have h6 := h.bml
  have hO : Only [ga] W (W.setCell ⟨ga, 0, none⟩ v) := only_put W v
  exact ⟨h.r0.only hO (by simp; omega), h.r1.only hO (by simp; omega), h.r2.only hO (by simp; omega), IsBlk.put h.arr 0 v, h.log.keep hO (by simp; omega), h.disk.keep hO (by simp; omega) (by simp; omega) (by simp; omega), h.only.then hO [] (by simp) (by simp; omega), h.lq, h.ql, h.la, h.pdl, h.bll, h.bml⟩
theorem OS.put1 (h : OS w W q lp ga pd bl bm D L s0 s1 rv) (v : Value) : OS w (W.setCell ⟨ga, 1, none⟩ v) q lp ga pd bl bm D L s0 v rv := by
  have h1 := h.lq; have h2 := h.ql; have h3 := h.la; have h4 := h.pdl; have h5 := h.bll; have h6 := h.bml
  have hO : Only [ga] W (W.setCell ⟨ga, 1, none⟩ v) := only_put W v
  exact ⟨h.r0.only hO (by simp; omega), h.r1.only hO (by simp; omega), h.r2.only hO (by simp; omega), IsBlk.put h.arr 1 v, h.log.keep hO (by simp; omega), h.disk.keep hO (by simp; omega) (by simp; omega) (by simp; omega), h.only.then hO [] (by simp) (by simp; omega), h.lq, h.ql, h.la, h.pdl, h.bll, h.bml⟩
theorem OS.putE (h : OS w W q lp ga pd bl bm D L s0 s1 rv) : OS w (W.setCell ⟨q + 1 + 1, 0, none⟩ (.int .i64 0)) q lp ga pd bl bm D L s0 s1 rv := by
  have h1 := h.lq; have h2 := h.ql; have h3 := h.la; have h4 := h.pdl; have h5 := h.bll; have h6 := h.bml
  have hO : Only [q + 1 + 1] W (W.setCell ⟨q + 1 + 1, 0, none⟩ (.int .i64 0)) := only_put W _
  exact ⟨h.r0.only hO (by simp; omega), h.r1.only hO (by simp), IsBlk.put h.r2 0 _, h.arr.only hO (by simp; omega), h.log.keep hO (by simp; omega), h.disk.keep hO (by simp; omega) (by simp; omega) (by simp; omega), h.only.then hO [] (by simp) (by simp; omega), h.lq, h.ql, h.la, h.pdl, h.bll, h.bml⟩
theorem OS.putR (h : OS w W q lp ga pd bl bm D L s0 s1 rv) (v : Value) : OS w (W.setCell ⟨q + 1, 0, none⟩ v) q lp ga pd bl bm D L s0 s1 v := by
  have h1 := h.lq; have h2 := h.ql; have h3 := h.la; have h4 := h.pdl; have h5 := h.bll; have h6 := h.bml
  have hO : Only [q + 1] W (W.setCell ⟨q + 1, 0, none⟩ v) := only_put W _
  exact ⟨h.r0.only hO (by simp), IsBlk.put h.r1 0 _, h.r2.only hO (by simp), h.arr.only hO (by simp; omega), h.log.keep hO (by simp; omega), h.disk.keep hO (by simp; omega) (by simp; omega) (by simp; omega), h.only.then hO [] (by simp) (by simp; omega), h.lq, h.ql, h.la, h.pdl, h.bll, h.bml⟩
theorem OS.putL (h : OS w W q lp ga pd bl bm D L s0 s1 rv) : OS w (W.setCell ⟨q, 0, none⟩ (.pointer (some ⟨lp, 0, none⟩))) q lp ga pd bl bm D L s0 s1 rv := by
  have h1 := h.lq; have h2 := h.ql; have h3 := h.la; have h4 := h.pdl; have h5 := h.bll; have h6 := h.bml
  have hO : Only [q] W (W.setCell ⟨q, 0, none⟩ (.pointer (some ⟨lp, 0, none⟩))) := only_put W _
  exact ⟨IsBlk.put h.r0 0 _, h.r1.only hO (by simp), h.r2.only hO (by simp; omega), h.arr.only hO (by simp; omega), h.log.keep hO (by simp; omega), h.disk.keep hO (by simp; omega) (by simp; omega) (by simp; omega), h.only.then hO [] (by simp) (by simp; omega), h.lq, h.ql, h.la, h.pdl, h.bll, h.bml⟩
end

theorem os_made (w : World) (pd bl bm : Nat) (D : DS) (n : Nat) (h : DiskAt w pd bl bm D) :
    OS w (((((w.alloc (.cells #[.pointer (some ⟨w.heap.size + 1 + 1 + 1, 0, none⟩)] 52)).alloc (.cells #[.slice none 0 0] 53)).alloc (.cells #[.int .i64 0] 31)).alloc
      (.cells #[.pointer (some ⟨pd, 0, none⟩), .int .i64 n, .int .i64 0, .int .i64 0, .int .i64 0, .int .i64 0, .int .i64 0] 78)).alloc (.cells #[.slice none 0 0, .slice none 0 0] 80)) w.heap.size (w.heap.size + 1 + 1 + 1) (w.heap.size + 1 + 1 + 1 + 1) pd bl bm D ⟨n, 0, 0, 0, 0, 0⟩ (.slice none 0 0) (.slice none 0 0) (.slice none 0 0) := by
  have hO : Only [] w (((((w.alloc (.cells #[.pointer (some ⟨w.heap.size + 1 + 1 + 1, 0, none⟩)] 52)).alloc (.cells #[.slice none 0 0] 53)).alloc (.cells #[.int .i64 0] 31)).alloc
      (.cells #[.pointer (some ⟨pd, 0, none⟩), .int .i64 n, .int .i64 0, .int .i64 0, .int .i64 0, .int .i64 0, .int .i64 0] 78)).alloc (.cells #[.slice none 0 0, .slice none 0 0] 80)) :=
    (((((Only.refl [] w).alloc _).alloc _).alloc _).alloc _).alloc _
  have e1 : ∀ (W : World) (o : Obj), (W.alloc o).heap.size = W.heap.size + 1 := fun W o => by simp
  have b0 := IsBlk.made w (.cells #[.pointer (some ⟨w.heap.size + 1 + 1 + 1, 0, none⟩)] 52)
  generalize ha : w.alloc (.cells #[.pointer (some ⟨w.heap.size + 1 + 1 + 1, 0, none⟩)] 52) = A at *
  have sA : A.heap.size = w.heap.size + 1 := by rw [← ha]; exact e1 _ _
  have b1 := IsBlk.made A (.cells #[.slice none 0 0] 53)
  have b0' := b0.alloc (.cells #[.slice none 0 0] 53)
  have sB := e1 A (.cells #[.slice none 0 0] 53)
  generalize A.alloc (.cells #[.slice none 0 0] 53) = B at *
  have b2 := IsBlk.made B (.cells #[.int .i64 0] 31)
  have b1' := b1.alloc (.cells #[.int .i64 0] 31)
  have b0'' := b0'.alloc (.cells #[.int .i64 0] 31)
  have sC := e1 B (.cells #[.int .i64 0] 31)
  generalize B.alloc (.cells #[.int .i64 0] 31) = C at *
  have b3 := IsBlk.made C (.cells #[.pointer (some ⟨pd, 0, none⟩), .int .i64 n, .int .i64 0, .int .i64 0, .int .i64 0, .int .i64 0, .int .i64 0] 78)
  have sD := e1 C (.cells #[.pointer (some ⟨pd, 0, none⟩), .int .i64 n, .int .i64 0, .int .i64 0, .int .i64 0, .int .i64 0, .int .i64 0] 78)
  have hb4 := IsBlk.made (C.alloc (.cells #[.pointer (some ⟨pd, 0, none⟩), .int .i64 n, .int .i64 0, .int .i64 0, .int .i64 0, .int .i64 0, .int .i64 0] 78)) (.cells #[.slice none 0 0, .slice none 0 0] 80)
  rw [sD, sC, sB, sA] at hb4
  rw [sC, sB, sA] at b3
  rw [sB, sA] at b2
  rw [sA] at b1 b1'
  exact ⟨(b0''.alloc _).alloc _, (b1'.alloc _).alloc _, (b2.alloc _).alloc _, hb4, b3.alloc _, h.more hO, hO, Nat.le_refl _, by omega, by omega, h.plt, h.blt, h.mlt⟩

set_option maxHeartbeats 4000000 in
theorem open_any (w : World) (pd bl bm : Nat) (D : DS) (h : DiskAt w pd bl bm D) (hdead : D.dead = false) :
    Calls Tryz.prog 18 #[.pointer (some ⟨pd, 0, none⟩)] w (OpenTo w pd bl bm D) := by
  have hmf : ∀ (fn : Fn) (first cap : Array Value) (w : World), (Instr.makeFunc fn first cap).run Tryz.prog w = .ok (.func fn first cap) w := fun _ _ _ _ => rfl
  have H := Lib.hid h
  have hsm := h.small
  clear h
  go_enter_defers Tryz.func18, Tryz.ntmps18
  go_wp2_with fail
  refine (size_any _ pd bl D.n bm _ _ _ ((H.out.more ((((Only.refl [] w).alloc _).alloc _).alloc _)).blk)).mono ?_
  rintro e w' ⟨rfl, rfl⟩
  go_wp2_with fail
  have hdiv : (D.n : Int) / 2 = ((D.n / 2 : Nat) : Int) := by omega
  rw [hdiv]
  clear hdiv
  have hn : D.n / 2 ≤ 128 := by omega
  have hn2 : Hid (2 * (D.n / 2) ≤ D.n) := Lib.hid (by omega)
  have HT0 := fun n => Lib.hid (topM_bounds (halfP_sane D.now 0 n) (show (0 : Int) ≤ 0 by omega) (by omega))
  have hstart := Lib.hid (os_made w pd bl bm D (D.n / 2) H.out)
  have hpost : Hid (∀ e w', (∃ lp a cap, e = .returned (.tuple #[.pointer (some ⟨lp, 0, none⟩), .slice a (foundM D.now (D.n / 2)).1.length cap, .int .i64 0]) ∧ LogAt w' lp pd (openL D.now (D.n / 2)) ∧ DiskAt w' pd bl bm D ∧ (BytesAt w' a (foundM D.now (D.n / 2)).1.length (foundM D.now (D.n / 2)).1 ∧ (foundM D.now (D.n / 2)).1.length ≤ cap) ∧ w.heap.size ≤ lp ∧ Only [] w w') → OpenTo w pd bl bm D e w') := Lib.hid (fun _ _ h => h)
  generalize hnn : D.n / 2 = n at *
  generalize hq : w.heap.size = q at *
  go_loopw [14] (fun i wr => 
      (i = .int .i64 0 ∧ OS w wr q (q + 1 + 1 + 1) (q + 1 + 1 + 1 + 1) pd bl bm D ⟨n, 0, 0, 0, 0, 0⟩ (.slice none 0 0) (.slice none 0 0) (.slice none 0 0)) ∨
      (i = .int .i64 1 ∧ ∃ g0, OS w wr q (q + 1 + 1 + 1) (q + 1 + 1 + 1 + 1) pd bl bm D ⟨n, topM 0 (halfP D.now 0 n), 0, 0, 0, 0⟩ (.slice (some ⟨g0, 0, none⟩) n n) (.slice none 0 0) (.slice none 0 0) ∧ q + 1 + 1 + 1 + 1 < g0 ∧ g0 < wr.heap.size ∧ ∀ i x, (halfP D.now 0 n)[i]? = some x → PartN wr g0 (i * 5) x) ∨
      (i = .int .i64 2 ∧ ∃ g0 g1, OS w wr q (q + 1 + 1 + 1) (q + 1 + 1 + 1 + 1) pd bl bm D ⟨n, topM (topM 0 (halfP D.now 0 n)) (halfP D.now n n), 0, 0, 0, 0⟩ (.slice (some ⟨g0, 0, none⟩) n n) (.slice (some ⟨g1, 0, none⟩) n n) (.slice none 0 0) ∧ q + 1 + 1 + 1 + 1 < g0 ∧ g0 < wr.heap.size ∧ (∀ i x, (halfP D.now 0 n)[i]? = some x → PartN wr g0 (i * 5) x) ∧
        q + 1 + 1 + 1 + 1 < g1 ∧ g1 < wr.heap.size ∧ ∀ i x, (halfP D.now n n)[i]? = some x → PartN wr g1 (i * 5) x)) (fun i _ => 2 - (intOf i).toNat)
  case atStart => exact .inl ⟨rfl, hstart.out⟩
  case round =>
    rcases hrel with ⟨rfl, hS⟩ | ⟨rfl, g0, hS, hg0, hgw0, hP0⟩ | ⟨rfl, g0, g1, hS, hg0, hgw0, hP0, hg1, hgw1, hP1⟩
    · have c0 := hS.r0.cell 0
      simp at c0
      have HS := Lib.hid hS
      have hlq := hS.lq
      have h4 := hS.pdl
      have h5 := hS.bll
      have h6 := hS.bml
      clear hS
      go_wp2_with fail
      refine (read_half _ (q + 1 + 1 + 1) pd bl bm _ D 0 HS.out.log HS.out.disk hdead (by omega) (by show 0 * n + n ≤ D.n; have := hn2.out; omega) (by omega) (by omega) (by omega) (by show (0 : Int) ≤ 0; omega) (by show (0 : Int) ≤ 4294967295; omega)).mono ?_
      rintro e w1 ⟨gl, rfl, hPA, hL1, hD1, hgl, hgw, hPN, hO1⟩
      simp only at hPA hL1 hPN
      have hS1 := HS.out.logged hO1 hL1
      have hsz1 := hO1.size
      have hszr := HS.out.only.size
      have hga : q + 1 + 1 + 1 + 1 < gl := by have := HS.out.arr.lt; omega
      have HS1 := Lib.hid hS1
      have a0 := hS1.arr.cell 0
      have af := hS1.arr.notFrozen 0
      have e0 := hS1.r2.cell 0
      have ef := hS1.r2.notFrozen 0
      simp at a0 e0
      have HPN : Hid (∀ i x, (halfP D.now 0 n)[i]? = some x → PartN w1 gl (i * 5) x) := Lib.hid (fun i x hi => by
        obtain ⟨rfl, hil⟩ := halfP_get hi
        have := hPN i hil
        rwa [Nat.zero_mul] at this)
      rw [Nat.zero_mul] at HS1
      clear hS1 hPN hPA hL1 hD1 HS c0 hO1 hgl
      go_wp2_with fail
      go_roundw
      case rel =>
        have hOx : Only [q + 1 + 1 + 1 + 1, q + 1 + 1] w1 ((w1.setCell ⟨q + 1 + 1 + 1 + 1, 0, none⟩ (.slice (some ⟨gl, 0, none⟩) n n)).setCell ⟨q + 1 + 1, 0, none⟩ (.int .i64 0)) := ((Only.refl _ w1).setCell (by simp) _).setCell (by simp) _
        exact .inr (.inl ⟨rfl, gl, (HS1.out.put0 _).putE, hga, by simp; exact hgw, fun i x hi => (HPN.out i x hi).keep hOx hgw (by simp; omega)⟩)
      case measure => simp [intOf]
    · have c0 := hS.r0.cell 0
      simp at c0
      have HS := Lib.hid hS
      have hlq := hS.lq
      have h4 := hS.pdl
      have h5 := hS.bll
      have h6 := hS.bml
      have HP0 := Lib.hid hP0
      clear hS hP0
      have hT := (HT0 n).out
      have hone : (1 : Nat) * n = n := Nat.one_mul n
      go_wp2_with fail
      refine (read_half _ (q + 1 + 1 + 1) pd bl bm _ D 1 HS.out.log HS.out.disk hdead (by omega) (by show 1 * n + n ≤ D.n; have := hn2.out; omega) (by omega) (by omega) (by omega) hT.1 hT.2).mono ?_
      rintro e w1 ⟨gl, rfl, hPA, hL1, hD1, hgl, hgw, hPN, hO1⟩
      simp only at hPA hL1 hPN
      have hS1 := HS.out.logged hO1 hL1
      have hsz1 := hO1.size
      have hszr := HS.out.only.size
      have hga : q + 1 + 1 + 1 + 1 < gl := by have := HS.out.arr.lt; omega
      have HS1 := Lib.hid hS1
      have a0 := hS1.arr.cell 1
      have af := hS1.arr.notFrozen 1
      have e0 := hS1.r2.cell 0
      have ef := hS1.r2.notFrozen 0
      simp at a0 e0
      have HPN : Hid (∀ i x, (halfP D.now n n)[i]? = some x → PartN w1 gl (i * 5) x) := Lib.hid (fun i x hi => by
        obtain ⟨rfl, hil⟩ := halfP_get hi
        have := hPN i hil
        rwa [Nat.one_mul] at this)
      have HP0' : Hid (∀ i x, (halfP D.now 0 n)[i]? = some x → PartN w1 g0 (i * 5) x) := Lib.hid (fun i x hi => (HP0.out i x hi).keep hO1 hgw0 (by simp; omega))
      rw [hone] at HS1
      clear hS1 hPN hPA hL1 hD1 HS c0 hO1 hgl
      go_wp2_with fail
      go_roundw
      case rel =>
        have hOx : Only [q + 1 + 1 + 1 + 1, q + 1 + 1] w1 ((w1.setCell ⟨q + 1 + 1 + 1 + 1, 1, none⟩ (.slice (some ⟨gl, 0, none⟩) n n)).setCell ⟨q + 1 + 1, 0, none⟩ (.int .i64 0)) := ((Only.refl _ w1).setCell (by simp) _).setCell (by simp) _
        exact .inr (.inr ⟨rfl, g0, gl, (HS1.out.put1 _).putE, hg0, by simp; omega, fun i x hi => (HP0'.out i x hi).keep hOx (by omega) (by simp; omega), hga, by simp; exact hgw, fun i x hi => (HPN.out i x hi).keep hOx hgw (by simp; omega)⟩)
      case measure => simp [intOf]
    · have c0 := hS.r0.cell 0
      have a0 := hS.arr.cell 0
      have a1 := hS.arr.cell 1
      simp at c0 a0 a1
      have HS := Lib.hid hS
      have hlq := hS.lq
      have HP0 := Lib.hid hP0
      have HP1 := Lib.hid hP1
      clear hS hP0 hP1
      go_wp2_with fail
      refine (choose_any _ (q + 1 + 1 + 1) pd g0 g1 n ⟨n, topM (topM 0 (halfP D.now 0 n)) (halfP D.now n n), 0, 0, 0, 0⟩ (halfP D.now 0 n) (halfP D.now n n) HS.out.log HP0.out HP1.out (halfP_sane _ _ _) (halfP_sane _ _ _) (length_halfP _ _ _) (length_halfP _ _ _) (by omega) (by omega) (by omega) (by omega) (by omega)).mono ?_
      rintro e w1 ⟨rfl, hL1, hO1⟩
      simp only at hL1
      have hS1 := HS.out.logged hO1 hL1
      have hP0' : ∀ i x, (halfP D.now 0 n)[i]? = some x → PartN w1 g0 (i * 5) x := fun i x hi => (HP0.out i x hi).keep hO1 hgw0 (by simp; omega)
      have hP1' : ∀ i x, (halfP D.now n n)[i]? = some x → PartN w1 g1 (i * 5) x := fun i x hi => (HP1.out i x hi).keep hO1 hgw1 (by simp; omega)
      have hsz1 := hO1.size
      have hhf : (chooseM (halfP D.now 0 n) (halfP D.now n n)).2 ≤ 1 := by unfold chooseM; split <;> simp
      have hsel : ∃ gs, w1.cell? ⟨q + 1 + 1 + 1 + 1, (chooseM (halfP D.now 0 n) (halfP D.now n n)).2, none⟩ = some (.slice (some ⟨gs, 0, none⟩) n n) ∧ q + 1 + 1 + 1 + 1 < gs ∧ gs < w1.heap.size ∧ ∀ i x, (halfP D.now ((chooseM (halfP D.now 0 n) (halfP D.now n n)).2 * n) n)[i]? = some x → PartN w1 gs (i * 5) x := by
        generalize (chooseM (halfP D.now 0 n) (halfP D.now n n)).2 = hf at *
        rcases Nat.le_one_iff_eq_zero_or_eq_one.1 hhf with rfl | rfl
        · exact ⟨g0, hS1.arr.cell 0, hg0, by omega, by rw [Nat.zero_mul]; exact hP0'⟩
        · exact ⟨g1, hS1.arr.cell 1, hg1, by omega, by rw [Nat.one_mul]; exact hP1'⟩
      have hopen : Hid (openL D.now n = { size := n, top := topM (topM 0 (halfP D.now 0 n)) (halfP D.now n n), gen := (chooseM (halfP D.now 0 n) (halfP D.now n n)).1, half := (chooseM (halfP D.now 0 n) (halfP D.now n n)).2, next := (foundM D.now n).2.1, seq := (foundM D.now n).2.2 }) := Lib.hid rfl
      have hfound : Hid (foundM D.now n = if (chooseM (halfP D.now 0 n) (halfP D.now n n)).1 = 0 then ([], 0, 0) else followM (halfP D.now ((chooseM (halfP D.now 0 n) (halfP D.now n n)).2 * n) n) (chooseM (halfP D.now 0 n) (halfP D.now n n)).1 (n + 1) 0 0) := Lib.hid rfl
      obtain ⟨gs, hcs, hgs, hgsw, hPs⟩ := hsel
      generalize chooseM (halfP D.now 0 n) (halfP D.now n n) = ch at *
      obtain ⟨cg, chf⟩ := ch
      simp only at hS1 hhf hcs hPs hopen hfound
      have hS2 := hS1.same (Only.refl [] w1).drew
      have b0 : w1.drew.cell? ⟨q, 0, none⟩ = some (.pointer (some ⟨q + 1 + 1 + 1, 0, none⟩)) := hS2.r0.cell 0
      have b4 := hS2.log.c4
      simp only at b4
      have hcs' : w1.drew.cell? ⟨q + 1 + 1 + 1 + 1, chf, none⟩ = some (.slice (some ⟨gs, 0, none⟩) n n) := hcs
      have HS2 := Lib.hid hS2
      have HPs : Hid (∀ i x, (halfP D.now (chf * n) n)[i]? = some x → PartN w1.drew gs (i * 5) x) := Lib.hid (fun i x hi => (hPs i x hi).keep (Only.refl [] w1).drew hgsw (by simp))
      have hgsw' : gs < w1.drew.heap.size := hgsw
      have hi2 : (chf : Int) < 2 := by omega
      clear hS1 hL1 hO1 hcs hPs HS HP0 HP1 hP0' hP1' c0 a0 a1 hS2 hsz1 hgw0 hgw1 hgsw
      go_wp2_with fail
      refine still_tail 7 (by kernel_rfl) (by kernel_rfl) ?_
      simp only [List.take_succ_cons, List.take_zero, List.drop_succ_cons, List.drop_zero]
      generalize w1.drew = W at *
      iterate 7 still_step
      refine wpStill_nil ?_
      go_wp2_with fail
      have hqw : q + 1 + 1 + 1 + 1 < W.heap.size := HS2.out.arr.lt
      refine (follow_all _ [q + 1 + 1 + 1, q, q + 1, q + 1 + 1] (by simp; omega) (q + 1 + 1 + 1) pd gs n (by simp) _ (halfP D.now (chf * n) n) HS2.out.log rfl rfl HPs.out (halfP_sane _ _ _) (length_halfP _ _ _) (by omega) hgsw' (by omega)).mono ?_
      rintro e w2 ⟨v, rfl, hB, hL2, hO2⟩
      simp only at hB hL2
      rw [← hfound.out] at hB hL2
      rw [← hopen.out] at hL2
      have hS3 := HS2.out.logged hO2 hL2
      have hB3 : OwnBs w2 W.heap.size [q + 1 + 1 + 1, q, q + 1, q + 1 + 1] v (foundM D.now n).1 := hB
      clear hopen hfound b0 b4 hcs' HPs HS2 hB hL2 hO2
      generalize foundM D.now n = F at *
      generalize openL D.now n = L at *
      obtain ⟨va, vc, rfl, -, -⟩ := hB3.shape
      have c1 := hS3.r1.cell 0
      have f1 := hS3.r1.notFrozen 0
      simp at c1
      have HS3 := Lib.hid hS3
      have hOx : Only [q + 1] w2 (w2.setCell ⟨q + 1, 0, none⟩ (.slice va F.1.length vc)) := only_put w2 _
      have HB4 := Lib.hid (hB3.keep hOx (by simp; omega))
      have HS4 := Lib.hid (hS3.putR (.slice va F.1.length vc))
      clear hS3 hB3 hOx
      go_wp2_with fail
      generalize w2.setCell ⟨q + 1, 0, none⟩ (.slice va F.1.length vc) = W5 at *
      have c0 : W5.cell? ⟨q, 0, none⟩ = some (.pointer (some ⟨q + 1 + 1 + 1, 0, none⟩)) := HS4.out.r0.cell 0
      have c1 : W5.cell? ⟨q + 1, 0, none⟩ = some (.slice va F.1.length vc) := HS4.out.r1.cell 0
      have c2 : W5.cell? ⟨q + 1 + 1, 0, none⟩ = some (.int .i64 0) := HS4.out.r2.cell 0
      have f0 := HS4.out.r0.notFrozen 0
      have f1 := HS4.out.r1.notFrozen 0
      have f2 := HS4.out.r2.notFrozen 0
      clear HS3
      go_region
      go_wp2
      have hO6 : Only [q, q + 1, q + 1 + 1] W5 (((W5.setCell ⟨q, 0, none⟩ (.pointer (some ⟨q + 1 + 1 + 1, 0, none⟩))).setCell ⟨q + 1, 0, none⟩ (.slice va F.1.length vc)).setCell ⟨q + 1 + 1, 0, none⟩ (.int .i64 0)).drew := ((((Only.refl _ W5).setCell (by simp) _).setCell (by simp) _).setCell (by simp) _).drew
      have hS6 := (((HS4.out.putL).putR (.slice va F.1.length vc)).putE).same (Only.refl [] _).drew
      have hB6 := HB4.out.keep hO6 (by simp; omega)
      generalize (((W5.setCell ⟨q, 0, none⟩ (.pointer (some ⟨q + 1 + 1 + 1, 0, none⟩))).setCell ⟨q + 1, 0, none⟩ (.slice va F.1.length vc)).setCell ⟨q + 1 + 1, 0, none⟩ (.int .i64 0)).drew = W6 at *
      have d0 : W6.cell? ⟨q, 0, none⟩ = some (.pointer (some ⟨q + 1 + 1 + 1, 0, none⟩)) := hS6.r0.cell 0
      have d1 : W6.cell? ⟨q + 1, 0, none⟩ = some (.slice va F.1.length vc) := hS6.r1.cell 0
      have d2 : W6.cell? ⟨q + 1 + 1, 0, none⟩ = some (.int .i64 0) := hS6.r2.cell 0
      refine leaves_cons (f := 28) (args := #[.pointer (some ⟨q + 1 + 1, 0, none⟩), .pointer (some ⟨q, 0, none⟩), .pointer (some ⟨q + 1, 0, none⟩)]) (by simp) (by simp [go_sem]) ?_
      refine (open_done (q + 1 + 1) q (q + 1) .returning _ d2).mono ?_
      rintro e u' w'' ⟨rfl, rfl, rfl⟩
      obtain ⟨va', vc', e1, hBA, -, hcap⟩ := hB6.shape
      injection e1 with e1 e2 e3
      subst e1; subst e3
      have hfin := hpost.out _ w'' ⟨q + 1 + 1 + 1, va, vc, rfl, hS6.log, hS6.disk, ⟨hBA, hcap⟩, by omega, hS6.only⟩
      clear HS4 hS6 hB6 hO6 HB4 c0 c1 c2 f0 f1 f2 hBA
      simp [Leaves, settle, results, Tryz.results18, go_sem, d0, d1, d2]
      exact hfin

end Go.Proofs.YtfampoblcielpaaGreat
