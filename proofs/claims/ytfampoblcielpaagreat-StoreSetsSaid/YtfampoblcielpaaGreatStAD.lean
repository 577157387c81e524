/-
  A commit on a small disk, in few words.
-/
import Derived.Test.YtfampoblcielpaaGreatStAA
namespace Go.Proofs.YtfampoblcielpaaGreat
set_option maxRecDepth 100000
set_option linter.unusedVariables false
open Go.RowKit Go.Sort Go.Maps

/-- What keep answers. -/
def KeepToG (w : World) (sp lp pd bl bm bn : Nat) (L : LS) (rs : List (List UInt8)) (k : Int) (G N : List FileM) (e : Ending) (w' : World) : Prop :=
  e = .returned (.int .i64 0) ∧ ∃ D' L' rs' k', StAt w' sp lp pd bl bm bn D' L' rs' k' N ∧ L'.size = L.size ∧ 0 ≤ k' ∧ (k' ≤ k + 600 ∧ (rs' = rs ++ [changeB G N (namesM [G, N])] ∨ rs' = [setB N]) ∧ L'.gen ≤ L.gen + 1) ∧ Only [sp, lp, pd, bl, bm] w w'
/-- Behind the deferred function. -/
theorem KB.doneG {w w2 : World} {q sp lp pd bl bm b bn : Nat} {D' : DS} {L L' : LS} {rs rs' : List (List UInt8)} {k k' : Int} {G N : List FileM} (h : KB w2 q sp lp b bn N) (hW : WL w2 lp pd bl bm D' L' rs' k') (hO : Only [lp, pd, bl, bm] w w2) (hq : w.heap.size = q) (hl : lp < q) (hp : pd < q) (hbl : bl < q) (hbm : bm < q) (hs : sp < q) (hns : sp ∉ [lp, pd, bl, bm]) (hnb : bn ∉ [lp, pd, bl, bm]) (hbs : bn ≠ sp) (hb : bn < q) (hsz : L'.size = L.size) (hk0 : 0 ≤ k') (hk : k' ≤ k + 600 ∧ (rs' = rs ++ [changeB G N (namesM [G, N])] ∨ rs' = [setB N]) ∧ L'.gen ≤ L.gen + 1) :
    KeepToG w sp lp pd bl bm bn L rs k G N (.returned (.int .i64 0)) (w2.setCell ⟨sp, 1, none⟩ (.map (some bn))) := by
  have hO1 : Only [sp] w2 (w2.setCell ⟨sp, 1, none⟩ (.map (some bn))) := only_put w2 _
  refine ⟨rfl, D', L', rs', k', ⟨h.blk.put 1 (.map (some bn)), ?_, h.set.keep hO1 (by simpa using hbs), hns, hnb⟩, hsz, hk0, hk, ?_⟩
  · simp only [List.mem_cons, List.not_mem_nil, or_false, not_or] at hns
    exact ⟨hW.disk.keep hO1 (by simp; omega) (by simp; omega) (by simp; omega), hW.log.keep hO1 (by simp; omega), hW.live, hW.ok, hW.ne⟩
  · exact (hO.trans hO1).into (fun j hj => .inl (by simp at hj ⊢; omega))

set_option maxHeartbeats 8000000 in
theorem keep_gen (w : World) (sp lp pd bl bm b bn : Nat) (D : DS) (L : LS) (rs : List (List UInt8)) (k : Int) (G N : List FileM) (aw : Option Addr) (cw : Nat) (h : StAt w sp lp pd bl bm b D L rs k G) (hN : SetAt w bn N) (hnb : bn ∉ [lp, pd, bl, bm]) (hns : bn ≠ sp) (hM : Modest N) (hMG : Modest G) (hGN : G.length + N.length ≤ 255) (hw : Src w aw (setB N).length (setB N))
    (hp : partsN (setB N).length ≤ 255) (hpc : partsN (changeB G N (namesM [G, N])).length ≤ 255) (hsz : partsN (setB N).length ≤ L.size) (hg : L.gen < 4294967295) (hk0 : 0 ≤ k) (hk : k < 50000) (haw : 0 < (setB N).length → ∀ x y, aw = some ⟨x, y, none⟩ → x ∉ [lp, pd, bl, bm]) :
    Calls Tryz.prog 26 #[.pointer (some ⟨sp, 0, none⟩), .map (some bn), .slice aw (setB N).length cw] w (KeepToG w sp lp pd bl bm bn L rs k G N) := by
  have hmf : ∀ (fn : Fn) (first cap : Array Value) (w : World), (Instr.makeFunc fn first cap).run Tryz.prog w = .ok (.func fn first cap) w := fun _ _ _ _ => rfl
  have hspl := h.blk.lt
  have hbnl := hN.lt
  have hlpl := IsBlk.lt h.wl.log
  have hpdl := h.wl.disk.plt
  have hbll := h.wl.disk.blt
  have hbml := h.wl.disk.mlt
  have H := Lib.hid h
  have HN := Lib.hid hN
  have Hw := Lib.hid hw
  have HM := Lib.hid hM
  have HMG := Lib.hid hMG
  have Haw := Lib.hid haw
  have hO3 := Lib.hid ((((Only.refl [] w).alloc (.cells #[.pointer (some ⟨sp, 0, none⟩)] 30)).alloc (.cells #[.map (some bn)] 57)).alloc (.cells #[.int .i64 0] 31))
  have hKB : Hid (KB (((w.alloc (.cells #[.pointer (some ⟨sp, 0, none⟩)] 30)).alloc (.cells #[.map (some bn)] 57)).alloc (.cells #[.int .i64 0] 31)) w.heap.size sp lp b bn N) := Lib.hid (by
    refine ⟨((IsBlk.made w _).alloc _).alloc _, ?_, ?_, h.blk.only hO3.out (by simp), hN.more hO3.out⟩
    · have := (IsBlk.made (w.alloc (.cells #[.pointer (some ⟨sp, 0, none⟩)] 30)) (.cells #[.map (some bn)] 57)).alloc (.cells #[.int .i64 0] 31)
      rwa [World.size_alloc] at this
    · have := IsBlk.made ((w.alloc (.cells #[.pointer (some ⟨sp, 0, none⟩)] 30)).alloc (.cells #[.map (some bn)] 57)) (.cells #[.int .i64 0] 31)
      rwa [World.size_alloc, World.size_alloc] at this)
  clear h hN hw hM hMG haw
  go_enter_defers Tryz.func26, Tryz.ntmps26
  go_wp2_with fail
  have hszA : w.heap.size + 1 + 1 + 1 = (((w.alloc (.cells #[.pointer (some ⟨sp, 0, none⟩)] 30)).alloc (.cells #[.map (some bn)] 57)).alloc (.cells #[.int .i64 0] 31)).heap.size := by simp
  generalize ((w.alloc (.cells #[.pointer (some ⟨sp, 0, none⟩)] 30)).alloc (.cells #[.map (some bn)] 57)).alloc (.cells #[.int .i64 0] 31) = wA at *
  generalize hq : w.heap.size = q at *
  have Hq := Lib.hid hq
  clear hq
  have c3 : wA.cell? ⟨q, 0, none⟩ = some (.pointer (some ⟨sp, 0, none⟩)) := hKB.out.b3.cell 0
  have c4 : wA.cell? ⟨q + 1, 0, none⟩ = some (.map (some bn)) := hKB.out.b4.cell 0
  have s0 : wA.cell? ⟨sp, 0, none⟩ = some (.pointer (some ⟨lp, 0, none⟩)) := hKB.out.blk.cell 0
  have s1 : wA.cell? ⟨sp, 1, none⟩ = some (.map (some b)) := hKB.out.blk.cell 1
  have Hpost : Hid (L.next + partsN (changeB G N (namesM [G, N])).length ≤ L.size ∨ L.size < L.next + partsN (changeB G N (namesM [G, N])).length) := Lib.hid (by omega)
  generalize hcb : changeB G N (namesM [G, N]) = cb at *
  have Hcb := Lib.hid hcb
  clear hcb
  have keepS : Hid (∀ W : World, KB W q sp lp b bn N → W.cell? ⟨q, 0, none⟩ = some (.pointer (some ⟨sp, 0, none⟩)) ∧ W.cell? ⟨q + 1, 0, none⟩ = some (.map (some bn)) ∧ W.cell? ⟨sp, 0, none⟩ = some (.pointer (some ⟨lp, 0, none⟩)) ∧ W.cell? ⟨sp, 1, none⟩ = some (.map (some b)) ∧ W.cell? ⟨q + 1 + 1, 0, none⟩ = some (.int .i64 0) ∧ W.frozen? ⟨q + 1 + 1, 0, none⟩ = false) := Lib.hid (fun W h => ⟨h.b3.cell 0, h.b4.cell 0, h.blk.cell 0, h.blk.cell 1, h.b6.cell 0, h.b6.notFrozen 0⟩)
  have hall := keepS.out wA hKB.out
  go_region_held3 (fun W => W.cell? ⟨q, 0, none⟩ = some (.pointer (some ⟨sp, 0, none⟩)) ∧ W.cell? ⟨q + 1, 0, none⟩ = some (.map (some bn)) ∧ W.cell? ⟨sp, 0, none⟩ = some (.pointer (some ⟨lp, 0, none⟩)) ∧ W.cell? ⟨sp, 1, none⟩ = some (.map (some b)) ∧ W.cell? ⟨q + 1 + 1, 0, none⟩ = some (.int .i64 0) ∧ W.frozen? ⟨q + 1 + 1, 0, none⟩ = false) (first | exact hall | assumption | exact keepS.out _ (hKB2.put6 (by omega) (by omega)))
      (first
        | (go_at_call 43
           refine (appended _ lp pd bl bm D L rs k a1 c1 cb (H.out.wl.more hO1) hs1 hpc hk0 (by omega)).mono ?_
           rintro e w2 ⟨rfl, hO2, hx2⟩
           have hKB2 := hKB1.keep hO2 (by simp; omega) (by simp; omega) (by simp; omega) H.out.ns hnb
           have hS2 := keepS.out w2 hKB2
           have hOw2 := (hO1.trans hO2))
        | (go_at_call 44
           refine (change_gen _ bn b G N (H.out.set.more (hO3.out.drew)) (hKB.out.set.more (Only.refl [] wA).drew) HM.out HMG.out hGN).mono ?_
           rintro e w1 ⟨v1, rfl, hv1, hO1a⟩
           rw [Hcb.out] at hv1
           obtain ⟨a1, c1, rfl, hs1, hn1, -⟩ := OwnB.shape hv1
           have hO1b := ((Only.refl [] wA).drew).plus hO1a
           have hO1 := hO3.out.plus hO1b
           have hKB1 := hKB.out.keep hO1b (by simp) (by simp) (by simp) (by simp) (by simp)
           have hS1 := keepS.out w1 hKB1))
  have hspq : sp < q := by have := Hq.out; omega
  have HKB3 := Lib.hid (hKB2.put6 (by omega) (by omega))
  have hOs : Only [q + 1 + 1] w2 (w2.setCell ⟨q + 1 + 1, 0, none⟩ (.int .i64 0)) := only_put w2 _
  have HO2 : Hid (Only [lp, pd, bl, bm] w (w2.setCell ⟨q + 1 + 1, 0, none⟩ (.int .i64 0))) := Lib.hid ((hOw2.trans hOs).into (fun j hj => by
    simp at hj ⊢; have := Hq.out; omega))
  have HWk : Hid (∀ D' L' rs' k', WL w2 lp pd bl bm D' L' rs' k' → WL (w2.setCell ⟨q + 1 + 1, 0, none⟩ (.int .i64 0)) lp pd bl bm D' L' rs' k') := Lib.hid (fun D' L' rs' k' hW =>
    ⟨hW.disk.keep hOs (by simp; omega) (by simp; omega) (by simp; omega), hW.log.keep hOs (by simp; omega), hW.live, hW.ok, hW.ne⟩)
  have Hx2 := Lib.hid hx2
  clear hx2 hOs hKB1 hKB2 hS1 hS2 hO1 hO1a hO1b hO2 hOw2 hs1 hn1 hv1 hall c3 c4 s0 s1 hKB
  rename_i hheld
  clear hheld
  generalize w2.setCell ⟨q + 1 + 1, 0, none⟩ (.int .i64 0) = W3 at *
  obtain ⟨g3, g4, g0, g1, g6, gz⟩ := keepS.out W3 HKB3.out
  have Hk4 : Hid (∀ W : World, KB W q sp lp b bn N → ∀ D' L' rs' k', WL W lp pd bl bm D' L' rs' k' → WL (W.setCell ⟨q + 1 + 1, 0, none⟩ (.int .i64 0)) lp pd bl bm D' L' rs' k') := Lib.hid (fun W _ D' L' rs' k' hW =>
    ⟨hW.disk.keep (only_put W _) (by simp; omega) (by simp; omega) (by simp; omega), hW.log.keep (only_put W _) (by simp; omega), hW.live, hW.ok, hW.ne⟩)
  have Ho4 : Hid (∀ W : World, Only [lp, pd, bl, bm] w W → Only [lp, pd, bl, bm] w (W.setCell ⟨q + 1 + 1, 0, none⟩ (.int .i64 0))) := Lib.hid (fun W hW => (hW.trans (only_put (p := q + 1 + 1) (i := 0) W (.int .i64 0))).into (fun j hj => by
    simp at hj ⊢; have := Hq.out; omega))
  by_cases hfit : L.next + partsN cb.length ≤ L.size
  · rw [decide_eq_true hfit]
    have HKB4 := Lib.hid (HKB3.out.put6 (by omega) (by omega))
    obtain ⟨D', hW'⟩ : ∃ D', WL w2 lp pd bl bm D' { L with next := L.next + partsN cb.length, seq := L.seq + 1 } (rs ++ [cb]) (k + partsN cb.length + 1) := by
      have := Hx2.out; rw [if_pos hfit] at this; exact this
    have hfin := Lib.hid (HKB4.out.doneG (L := L) (G := G) (rs := rs) (k := k) (Hk4.out W3 HKB3.out _ _ _ _ (HWk.out _ _ _ _ hW')) (Ho4.out W3 HO2.out) Hq.out (by have := Hq.out; omega) (by have := Hq.out; omega) (by have := Hq.out; omega) (by have := Hq.out; omega) hspq H.out.ns hnb hns (by have := Hq.out; omega) rfl (by omega) ⟨by omega, .inl (by rw [Hcb.out]), by show L.gen ≤ L.gen + 1; omega⟩)
    clear hW'
    go_wp2_with fail
    generalize W3.setCell ⟨q + 1 + 1, 0, none⟩ (.int .i64 0) = W4 at *
    obtain ⟨d3, d4, d0, d1, d6, -⟩ := keepS.out W4 HKB4.out
    have dz : W4.frozen? ⟨sp, 1, none⟩ = false := HKB4.out.blk.notFrozen 1
    clear g3 g4 g0 g1 g6 gz
    refine leaves_cons (f := 42) (args := #[.pointer (some ⟨q + 1 + 1, 0, none⟩), .pointer (some ⟨q + 1, 0, none⟩), .pointer (some ⟨q, 0, none⟩)]) (by simp) (by simp [go_sem]) ?_
    refine (keep_done (q + 1 + 1) (q + 1) q sp bn .returning _ d6 d4 d3 ⟨_, d1⟩ dz).mono ?_
    rintro e u' w'' ⟨rfl, rfl, rfl⟩
    have d6' : (W4.setCell ⟨sp, 1, none⟩ (.map (some bn))).cell? ⟨q + 1 + 1, 0, none⟩ = some (.int .i64 0) := ((HKB4.out.b6.only (only_put (p := sp) (i := 1) W4 (.map (some bn))) (by simp; omega)).cell 0)
    clear HKB4 d3 d4 d1 d6 dz
    generalize W4.setCell ⟨sp, 1, none⟩ (.map (some bn)) = W5 at *
    simp [Leaves, settle, results, Tryz.results26, go_sem, d6']
    exact hfin.out
  · rw [decide_eq_false hfit]
    have HW3 : Hid (WL W3 lp pd bl bm D L rs k) := Lib.hid (HWk.out _ _ _ _ (by have := Hx2.out; rw [if_neg hfit] at this; exact this))
    have Hs3 : Hid (Src W3 aw (setB N).length (setB N)) := Lib.hid (Hw.out.keep HO2.out Haw.out)
    go_wp2_with fail
    refine (freshened _ lp pd bl bm D L rs k aw cw (setB N) HW3.out Hs3.out hp hsz hg hk0 (by omega)).mono ?_
    rintro e w4 ⟨rfl, D', hW', hO'⟩
    have hKB4 := HKB3.out.keep hO' (by simp; omega) (by simp; omega) (by simp; omega) H.out.ns hnb
    have HKB5 := Lib.hid (hKB4.put6 (by omega) (by omega))
    have hfin := Lib.hid (HKB5.out.doneG (L := L) (G := G) (rs := rs) (k := k) (Hk4.out w4 hKB4 _ _ _ _ hW') (Ho4.out w4 ((HO2.out.trans hO').into (fun j hj => .inl (by simp at hj ⊢; omega)))) Hq.out (by have := Hq.out; omega) (by have := Hq.out; omega) (by have := Hq.out; omega) (by have := Hq.out; omega) hspq H.out.ns hnb hns (by have := Hq.out; omega) rfl (by omega) ⟨by omega, .inr rfl, Int.le_refl _⟩)
    clear g3 g4 g0 g1 g6 gz
    obtain ⟨g3, g4, g0, g1, g6, gz⟩ := keepS.out w4 hKB4
    clear hW' hO' hKB4 HKB3
    have HKB4 := HKB5
    clear HKB5
    go_wp2_with fail
    generalize w4.setCell ⟨q + 1 + 1, 0, none⟩ (.int .i64 0) = W4 at *
    obtain ⟨d3, d4, d0, d1, d6, -⟩ := keepS.out W4 HKB4.out
    have dz : W4.frozen? ⟨sp, 1, none⟩ = false := HKB4.out.blk.notFrozen 1
    clear g3 g4 g0 g1 g6 gz
    refine leaves_cons (f := 42) (args := #[.pointer (some ⟨q + 1 + 1, 0, none⟩), .pointer (some ⟨q + 1, 0, none⟩), .pointer (some ⟨q, 0, none⟩)]) (by simp) (by simp [go_sem]) ?_
    refine (keep_done (q + 1 + 1) (q + 1) q sp bn .returning _ d6 d4 d3 ⟨_, d1⟩ dz).mono ?_
    rintro e u' w'' ⟨rfl, rfl, rfl⟩
    have d6' : (W4.setCell ⟨sp, 1, none⟩ (.map (some bn))).cell? ⟨q + 1 + 1, 0, none⟩ = some (.int .i64 0) := ((HKB4.out.b6.only (only_put (p := sp) (i := 1) W4 (.map (some bn))) (by simp; omega)).cell 0)
    clear HKB4 d3 d4 d1 d6 dz
    generalize W4.setCell ⟨sp, 1, none⟩ (.map (some bn)) = W5 at *
    simp [Leaves, settle, results, Tryz.results26, go_sem, d6']
    exact hfin.out


theorem fits_all (w : World) (lp pd : Nat) (L : LS) (a : Option Addr) (cap : Nat) (b : List UInt8) (h : LogAt w lp pd L) (hs : Src w a b.length b) (hsz : L.size ≤ 128) (hb : b.length ≤ 1000000) :
    Calls Tryz.prog 24 #[.pointer (some ⟨lp, 0, none⟩), .slice a b.length cap] w fun e w' => e = .returned (.bool (decide (partsN b.length ≤ L.size))) ∧ Only [] w w' := by
  by_cases hl : partsN b.length ≤ 255
  · exact fits_any w lp pd L a cap b h hs hl
  · rw [decide_eq_false (show ¬ partsN b.length ≤ L.size by omega)]
    go_enter Tryz.func24, Tryz.ntmps24
    go_wp2_with fail
    refine (cut_long _ 1 0 a b.length cap (by decide) (by omega) (by omega)).mono ?_
    rintro e w' ⟨rfl, rfl⟩
    go_wp2
    go_ret
    exact ⟨rfl, Only.refl _ _⟩

def CommitToG (w : World) (sp lp pd bl bm b : Nat) (D : DS) (L : LS) (rs : List (List UInt8)) (k : Int) (F l : List FileM) (e : Ending) (w' : World) : Prop :=
  (soundM l = false → e = .returned (.int .i64 1) ∧ StAt w' sp lp pd bl bm b D L rs k F ∧ Only [] w w') ∧
  (soundM l = true → L.size < partsN (setB (buildF l)).length → e = .returned (.int .i64 4) ∧ StAt w' sp lp pd bl bm b D L rs k F ∧ Only [] w w') ∧
  (soundM l = true → partsN (setB (buildF l)).length ≤ L.size → F = buildF l → e = .returned (.int .i64 0) ∧ StAt w' sp lp pd bl bm b D L rs k F ∧ Only [] w w') ∧
  (soundM l = true → partsN (setB (buildF l)).length ≤ L.size → F ≠ buildF l → e = .returned (.int .i64 0) ∧ ∃ bn D' L' rs' k', StAt w' sp lp pd bl bm bn D' L' rs' k' (buildF l) ∧ L'.size = L.size ∧ 0 ≤ k' ∧ (k' ≤ k + 600 ∧ (rs' = rs ++ [changeB F (buildF l) (namesM [F, buildF l])] ∨ rs' = [setB (buildF l)]) ∧ L'.gen ≤ L.gen + 1) ∧ w.heap.size ≤ bn ∧ Only [sp, lp, pd, bl, bm] w w')

set_option maxHeartbeats 8000000 in
theorem commit_gen (w : World) (sp lp pd bl bm b : Nat) (D : DS) (L : LS) (rs : List (List UInt8)) (k : Int) (F l : List FileM) (a : Option Addr) (len cap : Nat) (h : StAt w sp lp pd bl bm b D L rs k F) (hl : FilesAt w a len l) (hm : ∀ f ∈ l, f.1.length ≤ maxLen ∧ f.2.length ≤ maxLen) (hlen : len ≤ maxLen)
    (hF : Modest F) (hF8 : F.length ≤ 8) (hpc : soundM l = true → partsN (setB (buildF l)).length ≤ L.size → partsN (changeB F (buildF l) (namesM [F, buildF l])).length ≤ 255) (hg : L.gen < 4294967295) (hk0 : 0 ≤ k) (hk : k < 50000) :
    Calls Tryz.prog 10 #[.pointer (some ⟨sp, 0, none⟩), .slice a len cap] w (CommitToG w sp lp pd bl bm b D L rs k F l) := by
  have H := Lib.hid h
  have Hl := Lib.hid hl
  have Hm := Lib.hid hm
  have HF := Lib.hid hF
  have Hpc := Lib.hid hpc
  have hLs := h.wl.size
  have hspl := h.blk.lt
  have hlpl := IsBlk.lt h.wl.log
  have hpdl := h.wl.disk.plt
  have hbll := h.wl.disk.blt
  have hbml := h.wl.disk.mlt
  clear h hl hm hF hpc
  go_enter Tryz.func10, Tryz.ntmps10
  go_wp2_with fail
  refine (setOf_any _ a len cap l Hl.out Hm.out hlen).mono ?_
  rintro e w1 ⟨hyes, hno, hO1⟩
  have HO1 := Lib.hid hO1
  cases hs : soundM l with
  | false =>
    obtain rfl := hno hs
    have Hs := Lib.hid hs
    clear hyes hno hO1 hs
    go_wp2
    go_ret
    exact ⟨fun _ => ⟨rfl, H.out.more HO1.out, HO1.out⟩, fun h => (by rw [Hs.out] at h; cases h), fun h => (by rw [Hs.out] at h; cases h), fun h => (by rw [Hs.out] at h; cases h)⟩
  | true =>
    obtain ⟨bn, rfl, hset, hbn⟩ := hyes hs
    have Hs := Lib.hid hs
    have hpc := Hpc.out hs
    have hbl : (setB (buildF l)).length ≤ 1000000 := by
      have h1 := sound_modest hs
      have h2 := flat_len h1.2
      have h3 := h1.1
      unfold setB
      rw [List.length_append, length_leB]
      omega
    have hN8 : (buildF l).length ≤ 8 := by
      have hs' := hs
      simp only [soundM, Bool.and_eq_true, decide_eq_true_eq] at hs'
      rw [(build_perm l hs'.2.2).length_eq]; omega
    have hFN : F.length + (buildF l).length ≤ 255 := by omega
    have HM := Lib.hid (sound_modest hs)
    have Hset := Lib.hid hset
    have hbnl := hset.lt
    have hsz1 := hO1.size
    clear hyes hno hO1 hs hset Hpc
    generalize hN : buildF l = N at *
    have HN := Lib.hid hN
    clear hN
    go_wp2_with fail
    refine (whole_any _ bn N Hset.out HM.out).mono ?_
    rintro e w2 ⟨v2, rfl, hv2, hO2⟩
    obtain ⟨a2, c2, rfl, hs2, hn2, -⟩ := OwnB.shape hv2
    have Hs2 := Lib.hid hs2
    have Hn2 := Lib.hid hn2
    have HO2 := Lib.hid (HO1.out.plus hO2)
    have Hset2 := Lib.hid (Hset.out.more hO2)
    have H2 := Lib.hid (H.out.more HO2.out)
    have c0 := H2.out.c0
    have c1 := H2.out.c1
    clear hv2 hs2 hn2 hO2 Hset
    go_wp2_with fail
    refine (fits_all _ lp pd L a2 c2 (setB N) H2.out.wl.log Hs2.out hLs hbl).mono ?_
    rintro e w3 ⟨rfl, hO3⟩
    have Hs3 := Lib.hid (Hs2.out.more hO3)
    have HO3 := Lib.hid (HO2.out.plus hO3)
    have Hset3 := Lib.hid (Hset2.out.more hO3)
    have H3 := Lib.hid (H2.out.more hO3)
    have d0 := H3.out.c0
    have d1 := H3.out.c1
    have hsz23 := hO3.size
    clear hO3 c0 c1 Hs2 HO2 Hset2 H2
    by_cases hfit : partsN (setB N).length ≤ L.size
    · have hp : partsN (setB N).length ≤ 255 := by omega
      have hpc := hpc hfit
      rw [decide_eq_true hfit]
      go_wp2_with fail
      refine (sameSet_any _ b bn F N H3.out.set Hset3.out).mono ?_
      rintro e w4 ⟨rfl, hO4⟩
      have Hs4 := Lib.hid (Hs3.out.more hO4)
      have HO4 := Lib.hid (HO3.out.plus hO4)
      have Hset4 := Lib.hid (Hset3.out.more hO4)
      have H4 := Lib.hid (H3.out.more hO4)
      have hsz34 := hO4.size
      clear hO4 d0 d1 Hs3 HO3 Hset3 H3
      by_cases heq : F = N
      · rw [decide_eq_true heq]
        have Heq := Lib.hid heq
        clear heq
        go_wp2
        go_ret
        refine ⟨fun h => ?_, fun _ h => ?_, fun _ _ _ => ⟨rfl, H4.out, HO4.out⟩, fun _ _ h => ?_⟩
        · rw [Hs.out] at h; cases h
        · rw [HN.out] at h; omega
        · rw [HN.out] at h; exact absurd Heq.out h
      · rw [decide_eq_false heq]
        have Heq := Lib.hid heq
        clear heq
        have hbnn : bn ∉ [lp, pd, bl, bm] := by simp; omega
        go_wp2_with fail
        refine (keep_gen _ sp lp pd bl bm b bn D L rs k F N a2 c2 H4.out Hset4.out hbnn (by omega) HM.out HF.out hFN Hs4.out hp hpc hfit hg hk0 hk ?haw).mono ?_
        case haw =>
          intro hp0 x y e
          have := (Hn2.out x y e).1
          simp; omega
        rintro e w5 ⟨rfl, D', L', rs', k', hS5, hsz5, hk5, hk6, hO5⟩
        have HS5 := Lib.hid hS5
        have HO5 := Lib.hid (HO4.out.trans hO5)
        clear hS5 hO5
        go_wp2
        go_ret
        refine ⟨fun h => ?_, fun _ h => ?_, fun _ _ h => ?_, fun _ _ _ => ⟨rfl, bn, D', L', rs', k', by rw [HN.out]; exact HS5.out, hsz5, hk5, by rw [HN.out]; exact hk6, hbn, HO5.out.into (fun j hj => .inl (by simpa using hj))⟩⟩
        · rw [Hs.out] at h; cases h
        · rw [HN.out] at h; omega
        · rw [HN.out] at h; exact absurd h Heq.out
    · rw [decide_eq_false hfit]
      go_wp2
      go_ret
      refine ⟨fun h => ?_, fun _ _ => ⟨rfl, H3.out, HO3.out⟩, fun _ h => ?_, fun _ h => ?_⟩
      · rw [Hs.out] at h; cases h
      · rw [HN.out] at h; omega
      · rw [HN.out] at h; omega

end Go.Proofs.YtfampoblcielpaaGreat
namespace Go.Proofs.YtfampoblcielpaaGreat
set_option maxRecDepth 100000
set_option linter.unusedVariables false
open Go.RowKit Go.Sort Go.Maps

theorem kept_empty : Kept [] := ⟨⟨by simp, by simp⟩, by simp, rfl⟩
theorem fileB_le {N : List FileM} {f : FileM} (h : f ∈ N) : (fileB f).length ≤ (N.flatMap fileB).length := by
  induction N with
  | nil => cases h
  | cons g r ih =>
    rw [List.flatMap_cons, List.length_append]
    rcases List.mem_cons.1 h with rfl | h
    · omega
    · have := ih h; omega
theorem Kept.short {N : List FileM} (h : Kept N) : ∀ f ∈ N, f.1.length ≤ 12 := fun f hf => by
  have := (h.good.1 f hf).1
  simp only [nameM, Bool.and_eq_true, decide_eq_true_eq] at this
  omega
theorem change_small {G N : List FileM} (hG : Kept G) (hN : Kept N) (hp : partsN (setB N).length ≤ 6) : partsN (changeB G N (namesM [G, N])).length ≤ 255 := by
  have hb : (setB N).length ≤ 308 := by unfold partsN at hp; omega
  have hns : ∀ n ∈ namesM [G, N], n.length ≤ 12 := fun n hn => by
    have := namesM_mem hn
    simp only [namesL, List.flatMap_cons, List.flatMap_nil, List.append_nil, List.mem_append, List.mem_map] at this
    rcases this with ⟨f, hf, rfl⟩ | ⟨f, hf, rfl⟩
    · exact hG.short f hf
    · exact hN.short f hf
  have hl : (namesM [G, N]).length ≤ 16 := by
    have := namesM_len [G, N]
    have h1 := hG.len
    have h2 := hN.len
    simp [namesL] at this
    omega
  have hone : ∀ n x, n.length ≤ 12 → chgE G N n = some x → x.length ≤ 310 := by
    intro n x hn hx
    unfold chgE at hx
    split at hx
    · cases hx
    · injection hx with hx
      subst hx
      split
      · rename_i hs
        obtain ⟨g, hg⟩ := Option.isSome_iff_exists.1 hs
        have h1 := fileB_le (List.mem_of_find?_eq_some hg)
        have h3 : atF n N = g := by unfold atF; rw [hg]; rfl
        unfold setB at hb
        rw [List.length_append, length_leB] at hb
        rw [h3, List.length_append, length_leB]
        omega
      · rw [List.length_append, List.length_append, length_leB, length_leB]
        omega
  have hall : ∀ ns : List (List UInt8), (∀ n ∈ ns, n.length ≤ 12) → (chgL G N ns).flatten.length ≤ 310 * ns.length := by
    intro ns
    induction ns with
    | nil => simp [chgL]
    | cons n r ih =>
      intro hn
      have ih' := ih (fun m hm => hn m (by simp [hm]))
      unfold chgL at ih' ⊢
      rw [List.filterMap_cons]
      cases hc : chgE G N n with
      | none => simp only [List.length_cons]; omega
      | some x =>
        have := hone n x (hn n (by simp)) hc
        simp only [List.flatten_cons, List.length_append, List.length_cons]
        omega
  have := hall _ hns
  have h5 : (changeB G N (namesM [G, N])).length ≤ 4961 := by
    unfold changeB
    rw [List.length_append, length_leB]
    have : 310 * (namesM [G, N]).length ≤ 310 * 16 := Nat.mul_le_mul_left _ hl
    omega
  unfold partsN
  omega

/-- A store on a disk with M sectors a half, its files, its operations. -/
def StoA (w : World) (sp lp pd bl bm M : Nat) (g k : Int) (F : List FileM) : Prop := ∃ b D L rs, StAt w sp lp pd bl bm b D L rs k F ∧ L.size = M ∧ L.gen ≤ g ∧ 0 ≤ k
theorem StoA.more {w w' : World} {sp lp pd bl bm M : Nat} {g k : Int} {F : List FileM} (h : StoA w sp lp pd bl bm M g k F) (hO : Only [] w w') : StoA w' sp lp pd bl bm M g k F := by
  obtain ⟨b, D, L, rs, hS, h1⟩ := h
  exact ⟨b, D, L, rs, hS.more hO, h1⟩
theorem StoA.blk {w : World} {sp lp pd bl bm M : Nat} {g k : Int} {F : List FileM} (h : StoA w sp lp pd bl bm M g k F) : DBlk w pd bl (2 * M) bm (-1) false k := by
  obtain ⟨b, D, L, rs, hS, hs, -, -⟩ := h
  have hb := hS.wl.disk.blk
  rw [hS.wl.live.ops, hS.wl.live.n, hS.wl.live.dead, hS.wl.live.fuse, hs] at hb
  exact hb
theorem StoA.files {w : World} {sp lp pd bl bm M : Nat} {g k : Int} {F : List FileM} (h : StoA w sp lp pd bl bm M g k F) (hF : F.length ≤ 100000) :
    Calls Tryz.prog 13 #[.pointer (some ⟨sp, 0, none⟩)] w fun e w' => ∃ v, e = .returned v ∧ OwnF w' w.heap.size v F ∧ Only [] w w' := by
  obtain ⟨b, D, L, rs, hS, -⟩ := h
  exact files_any w sp lp pd bl bm b D L rs k F hS hF
theorem StoA.lts {w : World} {sp lp pd bl bm M : Nat} {g k : Int} {F : List FileM} (h : StoA w sp lp pd bl bm M g k F) : sp < w.heap.size ∧ lp < w.heap.size ∧ pd < w.heap.size ∧ bl < w.heap.size ∧ bm < w.heap.size := by
  obtain ⟨b, D, L, rs, hS, -⟩ := h
  exact ⟨hS.blk.lt, IsBlk.lt hS.wl.log, hS.wl.disk.plt, hS.wl.disk.blt, hS.wl.disk.mlt⟩

/-- What a commit of l answers, and leaves. -/
def ComTo (w : World) (sp lp pd bl bm M : Nat) (g k : Int) (F l : List FileM) (e : Ending) (w' : World) : Prop :=
  ∃ (c : Int) (F' : List FileM) (k' : Int), e = .returned (.int .i64 c) ∧ StoA w' sp lp pd bl bm M (g + 1) k' F' ∧ k' ≤ k + 600 ∧ Kept F' ∧ partsN (setB F').length ≤ M ∧ Only [sp, lp, pd, bl, bm] w w' ∧
    ((soundM l = false ∧ c = 1 ∧ F' = F ∧ k' = k) ∨ (soundM l = true ∧ M < partsN (setB (buildF l)).length ∧ c = 4 ∧ F' = F ∧ k' = k) ∨ (soundM l = true ∧ partsN (setB (buildF l)).length ≤ M ∧ c = 0 ∧ F' = buildF l ∧ (F = buildF l → k' = k)))

theorem commit_step (w : World) (sp lp pd bl bm M : Nat) (g k : Int) (F l : List FileM) (a : Option Addr) (len cap : Nat) (h : StoA w sp lp pd bl bm M g k F) (hK : Kept F) (hfF : partsN (setB F).length ≤ M) (hl : FilesAt w a len l) (hm : ∀ f ∈ l, f.1.length ≤ maxLen ∧ f.2.length ≤ maxLen) (hlen : len ≤ maxLen) (hM : M ≤ 6) (hg : g ≤ 1000) (hk : k ≤ 5000) :
    Calls Tryz.prog 10 #[.pointer (some ⟨sp, 0, none⟩), .slice a len cap] w (ComTo w sp lp pd bl bm M g k F l) := by
  obtain ⟨b, D, L, rs, hS, hs, hgL, hk0⟩ := h
  refine (commit_gen w sp lp pd bl bm b D L rs k F l a len cap hS hl hm hlen hK.modest hK.len (fun hsd hfit => change_small hK (Kept.of hsd) (by omega)) (by omega) hk0 (by omega)).mono ?_
  rintro e w' ⟨h1, h2, h3, h4⟩
  cases hsd : soundM l with
  | false =>
    obtain ⟨he, hS', hO⟩ := h1 hsd
    exact ⟨1, F, k, he, ⟨b, D, L, rs, hS', hs, by omega, hk0⟩, by omega, hK, hfF, hO.into (by simp), .inl ⟨hsd, rfl, rfl, rfl⟩⟩
  | true =>
    by_cases hfit : partsN (setB (buildF l)).length ≤ L.size
    · by_cases hFl : F = buildF l
      · obtain ⟨he, hS', hO⟩ := h3 hsd hfit hFl
        exact ⟨0, F, k, he, ⟨b, D, L, rs, hS', hs, by omega, hk0⟩, by omega, hK, hfF, hO.into (by simp), .inr (.inr ⟨hsd, by omega, rfl, hFl, fun _ => rfl⟩)⟩
      · obtain ⟨he, bn, D', L', rs', k', hS', hs', hk0', ⟨hk1, -, hg1⟩, -, hO⟩ := h4 hsd hfit hFl
        exact ⟨0, buildF l, k', he, ⟨bn, D', L', rs', hS', by omega, by omega, hk0'⟩, hk1, Kept.of hsd, by omega, hO, .inr (.inr ⟨hsd, by omega, rfl, rfl, fun e => absurd e hFl⟩)⟩
    · obtain ⟨he, hS', hO⟩ := h2 hsd (by omega)
      exact ⟨4, F, k, he, ⟨b, D, L, rs, hS', hs, by omega, hk0⟩, by omega, hK, hfF, hO.into (by simp), .inr (.inl ⟨hsd, by omega, rfl, rfl, rfl⟩)⟩

end Go.Proofs.YtfampoblcielpaaGreat
