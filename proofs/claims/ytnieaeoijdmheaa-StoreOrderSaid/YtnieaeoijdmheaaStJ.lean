/-
  The next set, kept (keep).
-/
import Derived.Test.YtnieaeoijdmheaaStI
namespace Go.Proofs.Ytnieaeoijdmheaa
set_option maxRecDepth 100000
set_option linter.unusedVariables false
open Go.RowKit Go.Sort Go.Maps

set_option maxHeartbeats 2000000 in
theorem keep_done (q r s sp bn : Nat) (u : FrameMode) (w : World) (h : w.cell? ⟨q, 0, none⟩ = some (.int .i64 0)) (h1 : w.cell? ⟨r, 0, none⟩ = some (.map (some bn))) (h2 : w.cell? ⟨s, 0, none⟩ = some (.pointer (some ⟨sp, 0, none⟩))) (h3 : ∃ v, w.cell? ⟨sp, 1, none⟩ = some v) (h4 : w.frozen? ⟨sp, 1, none⟩ = false) :
    CallsD Try.prog 43 #[.pointer (some ⟨q, 0, none⟩), .pointer (some ⟨r, 0, none⟩), .pointer (some ⟨s, 0, none⟩)] u w fun e u' w' => u' = u ∧ (e = .returned (.tuple #[]) ∧ w' = w.setCell ⟨sp, 1, none⟩ (.map (some bn))) := by
  obtain ⟨v, h3⟩ := h3
  go_enter_d Try.func43, Try.ntmps43
  go_wp2
  go_end0
  exact ⟨rfl, rfl⟩

/-- The boxes that keep has made, and what they point at. -/
structure KB (w : World) (q sp lp b bn : Nat) (N : List FileM) : Prop where
  b3 : IsBlk w q (.cells #[.pointer (some ⟨sp, 0, none⟩)] 28)
  b4 : IsBlk w (q + 1) (.cells #[.map (some bn)] 56)
  b6 : IsBlk w (q + 1 + 1) (.cells #[.int .i64 0] 25)
  blk : IsBlk w sp (.cells (stcells lp b) 61)
  set : SetAt w bn N
theorem KB.keep {w w' : World} {q sp lp b bn : Nat} {N : List FileM} {S : List Nat} (h : KB w q sp lp b bn N) (hO : Only S w w') (h0 : q ∉ S) (h1 : q + 1 ∉ S) (h2 : q + 1 + 1 ∉ S) (h3 : sp ∉ S) (h4 : bn ∉ S) : KB w' q sp lp b bn N :=
  ⟨h.b3.only hO h0, h.b4.only hO h1, h.b6.only hO h2, h.blk.only hO h3, h.set.keep hO h4⟩

/-- What keep answers. -/
def KeepTo (w : World) (sp lp pd bl bm bn : Nat) (L : LS) (k : Int) (N : List FileM) (e : Ending) (w' : World) : Prop :=
  e = .returned (.int .i64 0) ∧ ∃ D' L' rs' k', StAt w' sp lp pd bl bm bn D' L' rs' k' N ∧ L'.size = L.size ∧ 0 ≤ k' ∧ k' ≤ k + 600 ∧ Only [sp, lp, pd, bl, bm] w w'
/-- Behind the deferred function. -/
theorem KB.done {w w2 : World} {q sp lp pd bl bm b bn : Nat} {D' : DS} {L L' : LS} {rs' : List (List UInt8)} {k k' : Int} {N : List FileM} (h : KB w2 q sp lp b bn N) (hW : WL w2 lp pd bl bm D' L' rs' k') (hO : Only [lp, pd, bl, bm] w w2) (hq : w.heap.size = q) (hl : lp < q) (hp : pd < q) (hbl : bl < q) (hbm : bm < q) (hs : sp < q) (hns : sp ∉ [lp, pd, bl, bm]) (hnb : bn ∉ [lp, pd, bl, bm]) (hbs : bn ≠ sp) (hb : bn < q) (hsz : L'.size = L.size) (hk0 : 0 ≤ k') (hk : k' ≤ k + 600) :
    KeepTo w sp lp pd bl bm bn L k N (.returned (.int .i64 0)) (w2.setCell ⟨sp, 1, none⟩ (.map (some bn))) := by
  have hO1 : Only [sp] w2 (w2.setCell ⟨sp, 1, none⟩ (.map (some bn))) := only_put w2 _
  refine ⟨rfl, D', L', rs', k', ⟨h.blk.put 1 (.map (some bn)), ?_, h.set.keep hO1 (by simpa using hbs), hns, hnb⟩, hsz, hk0, hk, ?_⟩
  · simp only [List.mem_cons, List.not_mem_nil, or_false, not_or] at hns
    exact ⟨hW.disk.keep hO1 (by simp; omega) (by simp; omega) (by simp; omega), hW.log.keep hO1 (by simp; omega), hW.live, hW.ok, hW.ne⟩
  · exact (hO.trans hO1).into (fun j hj => .inl (by simp at hj ⊢; omega))
theorem KB.put6 {w : World} {q sp lp b bn : Nat} {N : List FileM} (h : KB w q sp lp b bn N) (h3 : sp ≠ q + 1 + 1) (h4 : bn ≠ q + 1 + 1) : KB (w.setCell ⟨q + 1 + 1, 0, none⟩ (.int .i64 0)) q sp lp b bn N := by
  have hO : Only [q + 1 + 1] w (w.setCell ⟨q + 1 + 1, 0, none⟩ (.int .i64 0)) := only_put w _
  exact ⟨h.b3.only hO (by simp; omega), h.b4.only hO (by simp), h.b6.put 0 (.int .i64 0), h.blk.only hO (by simpa using h3), h.set.keep hO (by simpa using h4)⟩

set_option maxHeartbeats 8000000 in
theorem keep_new (w : World) (sp lp pd bl bm b bn : Nat) (D : DS) (L : LS) (rs : List (List UInt8)) (k : Int) (N : List FileM) (aw : Option Addr) (cw : Nat) (h : StAt w sp lp pd bl bm b D L rs k []) (hN : SetAt w bn N) (hnb : bn ∉ [lp, pd, bl, bm]) (hns : bn ≠ sp) (hM : Modest N) (hw : Src w aw (setB N).length (setB N))
    (hp : partsN (setB N).length ≤ 255) (hpc : partsN (changeB [] N (N.map (·.1))).length ≤ 255) (hsz : partsN (setB N).length ≤ L.size) (hg : L.gen < 4294967295) (hk0 : 0 ≤ k) (hk : k < 10000) (haw : 0 < (setB N).length → ∀ x y, aw = some ⟨x, y, none⟩ → x ∉ [lp, pd, bl, bm]) :
    Calls Try.prog 26 #[.pointer (some ⟨sp, 0, none⟩), .map (some bn), .slice aw (setB N).length cw] w (KeepTo w sp lp pd bl bm bn L k N) := by
  have hmf : ∀ (fn : Fn) (first cap : Array Value) (w : World), (Instr.makeFunc fn first cap).run Try.prog w = .ok (.func fn first cap) w := fun _ _ _ _ => rfl
  have hspl := h.blk.lt
  have hbnl := hN.lt
  have hlpl := IsBlk.lt h.wl.log
  have hpdl := h.wl.disk.plt
  have hbll := h.wl.disk.blt
  have hbml := h.wl.disk.mlt
  have H := Lib.hid h
  have HN := Lib.hid hN
  have Hw := Lib.hid hw
  have HM := Lib.hid hM
  have Haw := Lib.hid haw
  have hO3 := Lib.hid ((((Only.refl [] w).alloc (.cells #[.pointer (some ⟨sp, 0, none⟩)] 28)).alloc (.cells #[.map (some bn)] 56)).alloc (.cells #[.int .i64 0] 25))
  have hKB : Hid (KB (((w.alloc (.cells #[.pointer (some ⟨sp, 0, none⟩)] 28)).alloc (.cells #[.map (some bn)] 56)).alloc (.cells #[.int .i64 0] 25)) w.heap.size sp lp b bn N) := Lib.hid (by
    refine ⟨((IsBlk.made w _).alloc _).alloc _, ?_, ?_, h.blk.only hO3.out (by simp), hN.more hO3.out⟩
    · have := (IsBlk.made (w.alloc (.cells #[.pointer (some ⟨sp, 0, none⟩)] 28)) (.cells #[.map (some bn)] 56)).alloc (.cells #[.int .i64 0] 25)
      rwa [World.size_alloc] at this
    · have := IsBlk.made ((w.alloc (.cells #[.pointer (some ⟨sp, 0, none⟩)] 28)).alloc (.cells #[.map (some bn)] 56)) (.cells #[.int .i64 0] 25)
      rwa [World.size_alloc, World.size_alloc] at this)
  clear h hN hw hM haw
  go_enter_defers Try.func26, Try.ntmps26
  go_wp2_with fail
  have hszA : w.heap.size + 1 + 1 + 1 = (((w.alloc (.cells #[.pointer (some ⟨sp, 0, none⟩)] 28)).alloc (.cells #[.map (some bn)] 56)).alloc (.cells #[.int .i64 0] 25)).heap.size := by simp
  generalize ((w.alloc (.cells #[.pointer (some ⟨sp, 0, none⟩)] 28)).alloc (.cells #[.map (some bn)] 56)).alloc (.cells #[.int .i64 0] 25) = wA at *
  generalize hq : w.heap.size = q at *
  have Hq := Lib.hid hq
  clear hq
  have c3 : wA.cell? ⟨q, 0, none⟩ = some (.pointer (some ⟨sp, 0, none⟩)) := hKB.out.b3.cell 0
  have c4 : wA.cell? ⟨q + 1, 0, none⟩ = some (.map (some bn)) := hKB.out.b4.cell 0
  have s0 : wA.cell? ⟨sp, 0, none⟩ = some (.pointer (some ⟨lp, 0, none⟩)) := hKB.out.blk.cell 0
  have s1 : wA.cell? ⟨sp, 1, none⟩ = some (.map (some b)) := hKB.out.blk.cell 1
  have Hpost : Hid (L.next + partsN (changeB [] N (N.map (·.1))).length ≤ L.size ∨ L.size < L.next + partsN (changeB [] N (N.map (·.1))).length) := Lib.hid (by omega)
  generalize hcb : changeB [] N (N.map (·.1)) = cb at *
  have Hcb := Lib.hid hcb
  clear hcb
  have keepS : Hid (∀ W : World, KB W q sp lp b bn N → W.cell? ⟨q, 0, none⟩ = some (.pointer (some ⟨sp, 0, none⟩)) ∧ W.cell? ⟨q + 1, 0, none⟩ = some (.map (some bn)) ∧ W.cell? ⟨sp, 0, none⟩ = some (.pointer (some ⟨lp, 0, none⟩)) ∧ W.cell? ⟨sp, 1, none⟩ = some (.map (some b)) ∧ W.cell? ⟨q + 1 + 1, 0, none⟩ = some (.int .i64 0) ∧ W.frozen? ⟨q + 1 + 1, 0, none⟩ = false) := Lib.hid (fun W h => ⟨h.b3.cell 0, h.b4.cell 0, h.blk.cell 0, h.blk.cell 1, h.b6.cell 0, h.b6.notFrozen 0⟩)
  have hall := keepS.out wA hKB.out
  go_region_held3 (fun W => W.cell? ⟨q, 0, none⟩ = some (.pointer (some ⟨sp, 0, none⟩)) ∧ W.cell? ⟨q + 1, 0, none⟩ = some (.map (some bn)) ∧ W.cell? ⟨sp, 0, none⟩ = some (.pointer (some ⟨lp, 0, none⟩)) ∧ W.cell? ⟨sp, 1, none⟩ = some (.map (some b)) ∧ W.cell? ⟨q + 1 + 1, 0, none⟩ = some (.int .i64 0) ∧ W.frozen? ⟨q + 1 + 1, 0, none⟩ = false) (first | exact hall | assumption | exact keepS.out _ (hKB2.put6 (by omega) (by omega)))
      (first
        | (go_at_call 44
           refine (appended _ lp pd bl bm D L rs k a1 c1 cb (H.out.wl.more hO1) hs1 hpc hk0 (by omega)).mono ?_
           rintro e w2 ⟨rfl, hO2, hx2⟩
           have hKB2 := hKB1.keep hO2 (by simp; omega) (by simp; omega) (by simp; omega) H.out.ns hnb
           have hS2 := keepS.out w2 hKB2
           have hOw2 := (hO1.trans hO2))
        | (go_at_call 45
           refine (change_any _ bn b [] N (H.out.set.more (hO3.out.drew)) (hKB.out.set.more (Only.refl [] wA).drew) rfl HM.out).mono ?_
           rintro e w1 ⟨v1, rfl, hv1, hO1a⟩
           rw [Hcb.out] at hv1
           obtain ⟨a1, c1, rfl, hs1, hn1, -⟩ := OwnB.shape hv1
           have hO1b := ((Only.refl [] wA).drew).plus hO1a
           have hO1 := hO3.out.plus hO1b
           have hKB1 := hKB.out.keep hO1b (by simp) (by simp) (by simp) (by simp) (by simp)
           have hS1 := keepS.out w1 hKB1))
  have hspq : sp < q := by have := Hq.out; omega
  have HKB3 := Lib.hid (hKB2.put6 (by omega) (by omega))
  have hOs : Only [q + 1 + 1] w2 (w2.setCell ⟨q + 1 + 1, 0, none⟩ (.int .i64 0)) := only_put w2 _
  have HO2 : Hid (Only [lp, pd, bl, bm] w (w2.setCell ⟨q + 1 + 1, 0, none⟩ (.int .i64 0))) := Lib.hid ((hOw2.trans hOs).into (fun j hj => by
    simp at hj ⊢; have := Hq.out; omega))
  have HWk : Hid (∀ D' L' rs' k', WL w2 lp pd bl bm D' L' rs' k' → WL (w2.setCell ⟨q + 1 + 1, 0, none⟩ (.int .i64 0)) lp pd bl bm D' L' rs' k') := Lib.hid (fun D' L' rs' k' hW =>
    ⟨hW.disk.keep hOs (by simp; omega) (by simp; omega) (by simp; omega), hW.log.keep hOs (by simp; omega), hW.live, hW.ok, hW.ne⟩)
  have Hx2 := Lib.hid hx2
  clear hx2 hOs hKB1 hKB2 hS1 hS2 hO1 hO1a hO1b hO2 hOw2 hs1 hn1 hv1 hall c3 c4 s0 s1 hKB
  rename_i hheld
  clear hheld
  generalize w2.setCell ⟨q + 1 + 1, 0, none⟩ (.int .i64 0) = W3 at *
  obtain ⟨g3, g4, g0, g1, g6, gz⟩ := keepS.out W3 HKB3.out
  have Hk4 : Hid (∀ W : World, KB W q sp lp b bn N → ∀ D' L' rs' k', WL W lp pd bl bm D' L' rs' k' → WL (W.setCell ⟨q + 1 + 1, 0, none⟩ (.int .i64 0)) lp pd bl bm D' L' rs' k') := Lib.hid (fun W _ D' L' rs' k' hW =>
    ⟨hW.disk.keep (only_put W _) (by simp; omega) (by simp; omega) (by simp; omega), hW.log.keep (only_put W _) (by simp; omega), hW.live, hW.ok, hW.ne⟩)
  have Ho4 : Hid (∀ W : World, Only [lp, pd, bl, bm] w W → Only [lp, pd, bl, bm] w (W.setCell ⟨q + 1 + 1, 0, none⟩ (.int .i64 0))) := Lib.hid (fun W hW => (hW.trans (only_put (p := q + 1 + 1) (i := 0) W (.int .i64 0))).into (fun j hj => by
    simp at hj ⊢; have := Hq.out; omega))
  by_cases hfit : L.next + partsN cb.length ≤ L.size
  · rw [decide_eq_true hfit]
    have HKB4 := Lib.hid (HKB3.out.put6 (by omega) (by omega))
    obtain ⟨D', hW'⟩ : ∃ D', WL w2 lp pd bl bm D' { L with next := L.next + partsN cb.length, seq := L.seq + 1 } (rs ++ [cb]) (k + partsN cb.length + 1) := by
      have := Hx2.out; rw [if_pos hfit] at this; exact this
    have hfin := Lib.hid (HKB4.out.done (L := L) (k := k) (Hk4.out W3 HKB3.out _ _ _ _ (HWk.out _ _ _ _ hW')) (Ho4.out W3 HO2.out) Hq.out (by have := Hq.out; omega) (by have := Hq.out; omega) (by have := Hq.out; omega) (by have := Hq.out; omega) hspq H.out.ns hnb hns (by have := Hq.out; omega) rfl (by omega) (by omega))
    clear hW'
    go_wp2_with fail
    generalize W3.setCell ⟨q + 1 + 1, 0, none⟩ (.int .i64 0) = W4 at *
    obtain ⟨d3, d4, d0, d1, d6, -⟩ := keepS.out W4 HKB4.out
    have dz : W4.frozen? ⟨sp, 1, none⟩ = false := HKB4.out.blk.notFrozen 1
    clear g3 g4 g0 g1 g6 gz
    refine leaves_cons (f := 43) (args := #[.pointer (some ⟨q + 1 + 1, 0, none⟩), .pointer (some ⟨q + 1, 0, none⟩), .pointer (some ⟨q, 0, none⟩)]) (by simp) (by simp [go_sem]) ?_
    refine (keep_done (q + 1 + 1) (q + 1) q sp bn .returning _ d6 d4 d3 ⟨_, d1⟩ dz).mono ?_
    rintro e u' w'' ⟨rfl, rfl, rfl⟩
    have d6' : (W4.setCell ⟨sp, 1, none⟩ (.map (some bn))).cell? ⟨q + 1 + 1, 0, none⟩ = some (.int .i64 0) := ((HKB4.out.b6.only (only_put (p := sp) (i := 1) W4 (.map (some bn))) (by simp; omega)).cell 0)
    clear HKB4 d3 d4 d1 d6 dz
    generalize W4.setCell ⟨sp, 1, none⟩ (.map (some bn)) = W5 at *
    simp [Leaves, settle, results, Try.results26, go_sem, d6']
    exact hfin.out
  · rw [decide_eq_false hfit]
    have HW3 : Hid (WL W3 lp pd bl bm D L rs k) := Lib.hid (HWk.out _ _ _ _ (by have := Hx2.out; rw [if_neg hfit] at this; exact this))
    have Hs3 : Hid (Src W3 aw (setB N).length (setB N)) := Lib.hid (Hw.out.keep HO2.out Haw.out)
    go_wp2_with fail
    refine (freshened _ lp pd bl bm D L rs k aw cw (setB N) HW3.out Hs3.out hp hsz hg hk0 (by omega)).mono ?_
    rintro e w4 ⟨rfl, D', hW', hO'⟩
    have hKB4 := HKB3.out.keep hO' (by simp; omega) (by simp; omega) (by simp; omega) H.out.ns hnb
    have HKB5 := Lib.hid (hKB4.put6 (by omega) (by omega))
    have hfin := Lib.hid (HKB5.out.done (L := L) (k := k) (Hk4.out w4 hKB4 _ _ _ _ hW') (Ho4.out w4 ((HO2.out.trans hO').into (fun j hj => .inl (by simp at hj ⊢; omega)))) Hq.out (by have := Hq.out; omega) (by have := Hq.out; omega) (by have := Hq.out; omega) (by have := Hq.out; omega) hspq H.out.ns hnb hns (by have := Hq.out; omega) rfl (by omega) (by omega))
    clear g3 g4 g0 g1 g6 gz
    obtain ⟨g3, g4, g0, g1, g6, gz⟩ := keepS.out w4 hKB4
    clear hW' hO' hKB4 HKB3
    have HKB4 := HKB5
    clear HKB5
    go_wp2_with fail
    generalize w4.setCell ⟨q + 1 + 1, 0, none⟩ (.int .i64 0) = W4 at *
    obtain ⟨d3, d4, d0, d1, d6, -⟩ := keepS.out W4 HKB4.out
    have dz : W4.frozen? ⟨sp, 1, none⟩ = false := HKB4.out.blk.notFrozen 1
    clear g3 g4 g0 g1 g6 gz
    refine leaves_cons (f := 43) (args := #[.pointer (some ⟨q + 1 + 1, 0, none⟩), .pointer (some ⟨q + 1, 0, none⟩), .pointer (some ⟨q, 0, none⟩)]) (by simp) (by simp [go_sem]) ?_
    refine (keep_done (q + 1 + 1) (q + 1) q sp bn .returning _ d6 d4 d3 ⟨_, d1⟩ dz).mono ?_
    rintro e u' w'' ⟨rfl, rfl, rfl⟩
    have d6' : (W4.setCell ⟨sp, 1, none⟩ (.map (some bn))).cell? ⟨q + 1 + 1, 0, none⟩ = some (.int .i64 0) := ((HKB4.out.b6.only (only_put (p := sp) (i := 1) W4 (.map (some bn))) (by simp; omega)).cell 0)
    clear HKB4 d3 d4 d1 d6 dz
    generalize W4.setCell ⟨sp, 1, none⟩ (.map (some bn)) = W5 at *
    simp [Leaves, settle, results, Try.results26, go_sem, d6']
    exact hfin.out

end Go.Proofs.Ytnieaeoijdmheaa
