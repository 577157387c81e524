/-
  newLinks and add of the package graph.
-/
import Derived.Test.YtgkddbpfjbgelaaGrS
namespace Go.Proofs.Ytgkddbpfjbgelaa
set_option maxRecDepth 100000
set_option linter.unusedVariables false
open Go.RowKit Go.Sort

theorem make_rows (n : Nat) (hn : n ≤ 100000) (W : World) : (Instr.makeSlice 63 (.int .i64 n) (.int .i64 n)).run Try.prog W = .ok (.slice (some ⟨W.heap.size, 0, none⟩) n n) (W.alloc (.cells (List.replicate n (.slice none 0 0)).toArray 22)) := by
  obtain ⟨i0, hi, hz0, hz1, hz2⟩ := info_parts infoR8
  have hm := run_make (P := Try.prog) W 63 22 i0 (.slice none 0 0) Try.underlying63 hi hz0 .i64 .i64 n n (by omega) (Int.le_refl _) (by rw [hz2]; omega) (by omega)
  rw [hz1, Nat.mul_one] at hm
  have e : madeCells (Value.slice none 0 0).cells n = (List.replicate n (.slice none 0 0)).toArray := by
    apply Array.ext'
    exact toList_madeCells_one _ _
  simpa [e] using hm

theorem netR_new (W : World) (base n g : Nat) (cs : Array Value) (h : IsBlk W g (.cells cs 22)) (hcs : cs = Array.replicate n (.slice none 0 0)) (hb : base ≤ g) (hn : n ≤ 100000) : NetR W base (.slice (some ⟨g, 0, none⟩) n n) (List.replicate n []) [g] := by
  subst hcs
  refine ⟨List.replicate n (.slice none 0 0), ⟨by simp, .inr ⟨g, n, _, by simp, hb, h, by simp, by unfold maxLen; omega, by simp, by simp⟩⟩, fun k hk => by simpa [Value.ownBlock] using hk.symm, fun k hk => by simp at hk; subst hk; exact ⟨hb, h.lt⟩, fun i l hi => ?_⟩
  obtain ⟨hlt, e⟩ := List.getElem?_eq_some_iff.1 hi
  simp at e hlt
  subst e
  exact ⟨.slice none 0 0, by simp [hlt], RowI.nil _ _, fun b hb => by simp [Value.ownBlock] at hb⟩

def LinksTo (w : World) (n : Nat) (r : Ending) (w' : World) : Prop := ∃ g1 g2, r = .returned (.agg #[.slice (some ⟨g1, 0, none⟩) n n, .slice (some ⟨g2, 0, none⟩) n n]) ∧ LinksAt w' w.heap.size (.slice (some ⟨g1, 0, none⟩) n n) (.slice (some ⟨g2, 0, none⟩) n n) n [] [g1, g2] ∧ Only [] w w'

theorem links_new (W : World) (base n g1 g2 : Nat) (h1 : IsBlk W g1 (.cells (Array.replicate n (.slice none 0 0)) 22)) (h2 : IsBlk W g2 (.cells (Array.replicate n (.slice none 0 0)) 22)) (b1 : base ≤ g1) (b2 : base ≤ g2) (hne : g1 ≠ g2) (hn : n ≤ 100000) :
    LinksAt W base (.slice (some ⟨g1, 0, none⟩) n n) (.slice (some ⟨g2, 0, none⟩) n n) n [] [g1, g2] := by
  refine ⟨[g1], [g2], ?_, ?_, by simpa using hne, by simp⟩
  · rw [nxOf_nil]; exact netR_new W base n g1 _ h1 rfl b1 hn
  · rw [swapE, List.map_nil, nxOf_nil]; exact netR_new W base n g2 _ h2 rfl b2 hn

theorem sizeL8 : (Try.prog.info? 65).map (·.size) = some 2 := by kernel_rfl
theorem ret_links {fn : Func} {p : Tmp} (h : fn.results = #[.cell p 65]) (tmps : Array Value) (w : World) (g : Nat) (cs : Array Value) (hp : tmps.getD p undef = .pointer (some ⟨g, 0, none⟩))
    (hg : IsBlk w g (.cells cs 65)) (h3 : cs.size = 2) : (results fn tmps).run Try.prog w = .ok (.agg cs) w :=
  results_cell_row h tmps w g 65 cs (0, 0) _ hp hg Try.underlying65 rfl (by rw [h3]; exact sizeL8)

set_option maxHeartbeats 4000000 in
theorem newLinks_any (w : World) (n : Nat) (hn : n ≤ 100000) : Calls Try.prog 44 #[iv n] w (LinksTo w n) := by
  have hmk := make_rows n hn
  unfold iv
  go_enter Try.func44, Try.ntmps44
  go_wp2
  have hs0 : True := trivial
  go_region_held3 (fun W => True) (exact trivial) (fail)
  all_goals go_wp2
  · refine bodyPost_ret_by (ret_links rfl _ _ w.heap.size _ rfl (((IsBlk.made w _).alloc _).alloc _).drew rfl) rfl ?_
    refine ⟨w.heap.size + 1, w.heap.size + 1 + 1, rfl, links_new _ _ n _ _ ?_ ?_ (by omega) (by omega) (by omega) hn, ((((Only.refl [] w).alloc _).alloc _).alloc _).drew⟩
    · have := ((IsBlk.made (w.alloc (.cells #[Value.slice (some { block := w.heap.size + 1, off := 0 }) n n, Value.slice (some { block := w.heap.size + 1 + 1, off := 0 }) n n] 65)) (.cells (Array.replicate n (Value.slice none 0 0)) 22)).alloc (.cells (Array.replicate n (Value.slice none 0 0)) 22)).drew
      simpa using this
    · have := (IsBlk.made ((w.alloc (.cells #[Value.slice (some { block := w.heap.size + 1, off := 0 }) n n, Value.slice (some { block := w.heap.size + 1 + 1, off := 0 }) n n] 65)).alloc (.cells (Array.replicate n (Value.slice none 0 0)) 22)) (.cells (Array.replicate n (Value.slice none 0 0)) 22)).drew
      simpa using this
  · refine bodyPost_ret_by (ret_links rfl _ _ w.heap.size _ rfl (((IsBlk.made w _).alloc _).alloc _).drew rfl) rfl ?_
    refine ⟨w.heap.size + 1 + 1, w.heap.size + 1, rfl, links_new _ _ n _ _ ?_ ?_ (by omega) (by omega) (by omega) hn, ((((Only.refl [] w).alloc _).alloc _).alloc _).drew⟩
    · have := (IsBlk.made ((w.alloc (.cells #[Value.slice (some { block := w.heap.size + 1 + 1, off := 0 }) n n, Value.slice (some { block := w.heap.size + 1, off := 0 }) n n] 65)).alloc (.cells (Array.replicate n (Value.slice none 0 0)) 22)) (.cells (Array.replicate n (Value.slice none 0 0)) 22)).drew
      simpa using this
    · have := ((IsBlk.made (w.alloc (.cells #[Value.slice (some { block := w.heap.size + 1 + 1, off := 0 }) n n, Value.slice (some { block := w.heap.size + 1, off := 0 }) n n] 65)) (.cells (Array.replicate n (Value.slice none 0 0)) 22)).alloc (.cells (Array.replicate n (Value.slice none 0 0)) 22)).drew
      simpa using this

/-- One cell stored. -/
theorem store_one8 {P : Program} {w : World} {b o : Nat} {u v : Value} (hc : w.cell? ⟨b, o, none⟩ = some u) (hf : w.frozen? ⟨b, o, none⟩ = false) (h1 : v.oneCell' = true) : (storeCells ⟨b, o, none⟩ [v]).run P w = .ok () (w.setCell ⟨b, o, none⟩ v) := by
  have := run_storeCells_cells (P := P) b o [v] 0 w (fun j hj => by
      obtain rfl : j = 0 := by simpa using hj
      simp [hc]) (fun j hj => by
      obtain rfl : j = 0 := by simpa using hj
      simpa using hf) (by simpa using h1)
  simpa [World.setCells] using this

def AddTo (w : World) (base : Nat) (vn vb : Value) (n : Nat) (es : List Edg) (fp : List Nat) (r : Ending) (w' : World) : Prop :=
  r = .returned (.tuple #[]) ∧ ∃ fp', LinksAt w' base vn vb n es fp' ∧ Only fp w w' ∧ ∀ k ∈ fp', k ∈ fp ∨ w.heap.size ≤ k

set_option maxHeartbeats 8000000 in
theorem add_any (w : World) (base : Nat) (vn vb : Value) (n ka kb : Nat) (es : List Edg) (fp : List Nat) (h : LinksAt w base vn vb n es fp) (ha : ka < n) (hb : kb < n) (hn : n ≤ 100000) (hes : es.length ≤ 100000) :
    Calls Try.prog 45 #[.agg #[vn, vb], iv ka, iv kb] w (AddTo w base vn vb n (es ++ [(ka, kb)]) fp) := by
  obtain ⟨f1, f2, h1, h2, h3, h4⟩ := h
  obtain ⟨g1, c1, u1, rfl, hg1, e1, z1, r1, o1⟩ := h1.get (nxOf_get n es ha)
  obtain ⟨g2, c2, u2, rfl, hg2, e2, z2, r2, o2⟩ := h2.get (nxOf_get n (swapE es) hb)
  rw [nxOf_len] at h1 h2 ⊢
  rw [nxOf_len]
  generalize hL1 : (es.filter (fun e => e.1 == ka)).map (·.2) = l1 at *
  generalize hL2 : ((swapE es).filter (fun e => e.1 == kb)).map (·.2) = l2 at *
  have hl1 : l1.length ≤ 100000 := by rw [← hL1, List.length_map]; exact Nat.le_trans (List.length_filter_le _ _) hes
  have hl2 : l2.length ≤ 100000 := by rw [← hL2, List.length_map]; exact Nat.le_trans (List.length_filter_le _ _) (by simpa [swapE] using hes)
  obtain ⟨-, hf1⟩ : True ∧ ∀ k ∈ f1, base ≤ k ∧ k < w.heap.size := ⟨trivial, by obtain ⟨_, -, -, h, -⟩ := h1; exact h⟩
  obtain ⟨-, hf2⟩ : True ∧ ∀ k ∈ f2, base ≤ k ∧ k < w.heap.size := ⟨trivial, by obtain ⟨_, -, -, h, -⟩ := h2; exact h⟩
  have hbase : base ≤ w.heap.size := by have := hf1 g1 hg1; omega
  have hO0 : Only [] w (w.alloc (.cells #[.slice (some ⟨g1, 0, none⟩) n c1, .slice (some ⟨g2, 0, none⟩) n c2] 65)) := (Only.refl _ _).alloc _
  have HB := Lib.hid (IsBlk.made w (.cells #[.slice (some ⟨g1, 0, none⟩) n c1, .slice (some ⟨g2, 0, none⟩) n c2] 65))
  have hnn : (0 : Int) ≤ (ka : Int) := by omega
  have hai : (ka : Int) < (n : Int) := by omega
  have hbn : (0 : Int) ≤ (kb : Int) := by omega
  have hbi : (kb : Int) < (n : Int) := by omega
  unfold iv
  go_enter Try.func45, Try.ntmps45
  go_upto_region 1 with fail
  generalize hW1 : w.alloc (.cells #[.slice (some ⟨g1, 0, none⟩) n c1, .slice (some ⟨g2, 0, none⟩) n c2] 65) = w1 at *
  clear hW1
  have hb1 : ∀ j ∈ ownL u1, j < w.heap.size ∧ j ≠ g1 := fun j hj => ⟨(hf1 j (o1 j (mem_ownL.1 hj)).1).2, (o1 j (mem_ownL.1 hj)).2⟩
  have hb2 : ∀ j ∈ ownL u2, j < w.heap.size ∧ j ≠ g2 := fun j hj => ⟨(hf2 j (o2 j (mem_ownL.1 hj)).1).2, (o2 j (mem_ownL.1 hj)).2⟩
  have hsz1 : w.heap.size ≤ w1.heap.size := hO0.size
  have HB1 := HB
  have e1' := (hO0.cell (p := ⟨g1, ka, none⟩) (hf1 g1 hg1).2 (by simp)).trans e1
  have z1' := (hO0.frozen (p := ⟨g1, ka, none⟩) (hf1 g1 hg1).2 (by simp)).trans z1
  have Hr1 := Lib.hid (r1.off hO0 (by simp))
  have HS1 : Hid (∀ W, Only (ownL u1) w1 W → W.cell? ⟨w.heap.size, 0, none⟩ = some (.slice (some ⟨g1, 0, none⟩) n c1) ∧ W.cell? ⟨g1, ka, none⟩ = some u1) := Lib.hid (fun W hW => ⟨(HB1.out.only hW (fun hm => by have := hb1 _ hm; omega)).cell 0, (hW.cell (p := ⟨g1, ka, none⟩) (by show g1 < _; have := (hf1 g1 hg1).2; omega) (fun hm => (hb1 _ hm).2 rfl)).trans e1'⟩)
  have hdr : Only [] w1 w1.drew := (Only.refl [] w1).drew
  refine wp_region_app (P := Try.prog) 12 (by kernel_rfl) (by kernel_rfl) (fun i => i == 10 || i == 11) 10 (ownL u1)
    [SP.is (.pointer (some ⟨w.heap.size, 0, none⟩)),
     SP.is (.slice (some ⟨g1, 0, none⟩) n c1),
     SP.is (.int .i64 (ka : Nat)),
     SP.is (.pointer (some ⟨w.heap.size, 0, none⟩)),
     SP.is (.slice (some ⟨g1, 0, none⟩) n c1),
     SP.is (.int .i64 (ka : Nat)),
     SP.is (.pointer (some ⟨g1, ka, none⟩)),
     SP.is (u1),
     SP.is (.int .i64 (kb : Nat)),
     ⟨fun v W => ∃ q, v = .slice (some ⟨q, 0, none⟩) 1 1 ∧ IsBlk W q (.cells #[iv kb] 3) ∧ w1.heap.size ≤ q, fun _ _ _ ⟨q, e, h, h1⟩ hO => ⟨q, e, h.only hO (by simp), h1⟩⟩,
     ⟨fun v W => RowI W base v (l1 ++ [kb]) ∧ (v.ownBlock = u1.ownBlock ∨ ∃ q, v.ownBlock = some q ∧ w1.heap.size ≤ q), fun _ _ _ h hO => ⟨h.1.off hO (by simp), h.2⟩⟩,
     SP.is (.pointer (some ⟨g1, ka, none⟩))] ?_ ?_ ?_
  · refine ⟨?_, ?_, ?_, ?_, ?_, ?_, ?_, ?_, ?_, ?_, ?_, ?_, trivial⟩
    all_goals first
      | exact .inl rfl
      | exact .inr (fun _ _ _ h _ => h)
      | exact .inr (fun _ _ _ ⟨q, e, h, h1⟩ hO => ⟨q, e, h.only hO (fun hm => by have := (hb1 _ hm).1; omega), h1⟩)
  · simp only [List.take_succ_cons, List.take_zero]
    refine StepsOK.cons ?_ (StepsOK.cons ?_ (StepsOK.cons ?_ (StepsOK.cons ?_ (StepsOK.cons ?_ (StepsOK.cons ?_ (StepsOK.cons ?_ (StepsOK.cons ?_ (StepsOK.cons ?_ (StepsOK.cons ?_ (StepsOK.cons ?_ (StepsOK.cons ?_ StepsOK.nil)))))))))))
    · intro a W L N hR hold hφ hcl hkp hd K hK
      have e3 := hold 3 (by kernel_rfl)
      clear hold hφ hcl hkp hd
      rw [if_pos (by rfl)]
      go_simp
      exact hK _ _ (AppRk.small (by decide) (Only.refl _ _)) rfl
    · intro a W L N hR hold hφ hcl hkp hd K hK
      have e6 := got hφ (hd 0 (by kernel_rfl)) rfl rfl rfl
      obtain ⟨q1, q2⟩ := HS1.out W (hdr.then hR (ownL u1) (by simp) (fun i hi => .inl hi))
      clear hold hφ hcl hkp hd
      rw [if_pos (by rfl)]
      go_simp
      exact hK _ _ (AppRk.small (by decide) (Only.refl _ _)) rfl
    · intro a W L N hR hold hφ hcl hkp hd K hK
      have e1 := hold 1 (by kernel_rfl)
      clear hold hφ hcl hkp hd
      rw [if_pos (by rfl)]
      go_simp
      exact hK _ _ (AppRk.small (by decide) (Only.refl _ _)) rfl
    · intro a W L N hR hold hφ hcl hkp hd K hK
      have e3 := hold 3 (by kernel_rfl)
      clear hold hφ hcl hkp hd
      rw [if_pos (by rfl)]
      go_simp
      exact hK _ _ (AppRk.small (by decide) (Only.refl _ _)) rfl
    · intro a W L N hR hold hφ hcl hkp hd K hK
      have e9 := got hφ (hd 3 (by kernel_rfl)) rfl rfl rfl
      obtain ⟨q1, q2⟩ := HS1.out W (hdr.then hR (ownL u1) (by simp) (fun i hi => .inl hi))
      clear hold hφ hcl hkp hd
      rw [if_pos (by rfl)]
      go_simp
      exact hK _ _ (AppRk.small (by decide) (Only.refl _ _)) rfl
    · intro a W L N hR hold hφ hcl hkp hd K hK
      have e1 := hold 1 (by kernel_rfl)
      clear hold hφ hcl hkp hd
      rw [if_pos (by rfl)]
      go_simp
      exact hK _ _ (AppRk.small (by decide) (Only.refl _ _)) rfl
    · intro a W L N hR hold hφ hcl hkp hd K hK
      have e10 := got hφ (hd 4 (by kernel_rfl)) rfl rfl rfl
      have e11 := got hφ (hd 5 (by kernel_rfl)) rfl rfl rfl
      clear hold hφ hcl hkp hd
      rw [if_pos (by rfl)]
      go_simp
      exact hK _ _ (AppRk.small (by decide) (Only.refl _ _)) rfl
    · intro a W L N hR hold hφ hcl hkp hd K hK
      have e12 := got hφ (hd 6 (by kernel_rfl)) rfl rfl rfl
      obtain ⟨q1, q2⟩ := HS1.out W (hdr.then hR (ownL u1) (by simp) (fun i hi => .inl hi))
      clear hold hφ hcl hkp hd
      rw [if_pos (by rfl)]
      go_simp
      exact hK _ _ (AppRk.small (by decide) (Only.refl _ _)) rfl
    · intro a W L N hR hold hφ hcl hkp hd K hK
      have e2 := hold 2 (by kernel_rfl)
      clear hold hφ hcl hkp hd
      rw [if_pos (by rfl)]
      go_simp
      exact hK _ _ (AppRk.small (by decide) (Only.refl _ _)) rfl
    · intro a W L N hR hold hφ hcl hkp hd K hK
      have e14 := got hφ (hd 8 (by kernel_rfl)) rfl rfl rfl
      have hsz := (hdr.then hR (ownL u1) (by simp) (fun i hi => .inl hi)).size
      clear hold hφ hcl hkp hd
      rw [if_pos (by rfl)]
      go_simp
      exact hK _ _ (AppRk.small (by decide) ((Only.refl _ _).alloc _)) ⟨_, rfl, IsBlk.made W _, hsz⟩
    · intro a W L N hR hold hφ hcl hkp hd K hK
      have e13 := got hφ (hd 7 (by kernel_rfl)) rfl rfl rfl
      obtain ⟨u15, e15, q15, p15, b15, z15⟩ := gotP hφ (hd 9 (by kernel_rfl)) rfl rfl rfl
      have p15 : u15 = .slice (some ⟨q15, 0, none⟩) 1 1 := p15
      subst p15
      have hpr := hdr.plus (hcl.2.2.2.2 10 hcl.2.1).get
      have hsz := (hdr.then hR (ownL u1) (by simp) (fun i hi => .inl hi)).size
      clear hold hφ hcl hkp hd
      rw [if_pos (by rfl)]
      refine wp_append_18 _ _ 22 3 rfl Try.underlying22 (.int .i64 0) 8 infoI8 rfl (by decide) base u1 l1.length (l1.map iv) (by simp [Act.eval, e13]) (Hr1.out.off hpr (by simp)) q15 1 (iv kb) (by simp [Act.eval, e15]) (b15.cell 0) rfl (by omega) (by omega) ?_
      intro v9 w9 h9 hO9 hb9
      exact hK _ _ (AppRk.big hO9) ⟨by unfold RowI; rw [List.length_append, List.map_append]; exact h9, hb9.imp id (fun h => ⟨_, h, hsz⟩)⟩
    · intro a W L N hR hold hφ hcl hkp hd K hK
      have e7 := got hφ (hd 1 (by kernel_rfl)) rfl rfl rfl
      have e8 := got hφ (hd 2 (by kernel_rfl)) rfl rfl rfl
      clear hold hφ hcl hkp hd
      rw [if_pos (by rfl)]
      go_simp
      exact hK _ _ (AppRk.small (by decide) (Only.refl _ _)) rfl
  · intro us W hO' hus
    have p16 := hus 10 _ 16 (by omega) rfl rfl rfl
    have p17 : us 11 = .pointer (some ⟨g1, ka, none⟩) := hus 11 _ 17 (by omega) rfl rfl rfl
    clear hus
    obtain ⟨h16, b16⟩ : RowI W base (us 10) (l1 ++ [kb]) ∧ ((us 10).ownBlock = u1.ownBlock ∨ ∃ q, (us 10).ownBlock = some q ∧ w1.heap.size ≤ q) := p16
    obtain ⟨av1, cv1, ev, -⟩ := h16.slice
    simp only [List.take_succ_cons, List.take_zero, List.drop_succ_cons, List.drop_zero, fillAct, Act.put, List.setIfInBounds_toArray, List.set_cons_zero, List.set_cons_succ, Nat.reduceAdd, p17, ev]
    rw [ev] at h16 b16
    rw [show (l1 ++ [kb]).length = l1.length + 1 by simp] at h16 b16 ⊢
    clear p17 ev
    have hOW := hdr.then hO' (ownL u1) (by simp) (fun i hi => .inl hi)
    obtain ⟨q1, q2⟩ := HS1.out W hOW
    have hz : W.frozen? ⟨g1, ka, none⟩ = false := (hOW.frozen (p := ⟨g1, ka, none⟩) (by show g1 < _; have := (hf1 g1 hg1).2; omega) (fun hm => (hb1 _ hm).2 rfl)).trans z1'
    have hy := h16.one
    have ht := store_one8 (P := Try.prog) q2 hz hy
    have hN1 := (h1.more hO0).put (w := w1) (w' := W) (i := ka) (k := kb) (l := l1) (by rw [nxOf_get n es ha, hL1]) (by rw [nxOf_len]) e1' h16 hOW b16
    have h2W : NetR W base (.slice (some ⟨g2, 0, none⟩) n c2) (nxOf n (swapE es)) f2 := (h2.more hO0).off hOW (fun k hk hm => h3 k (o1 k (mem_ownL.1 hm)).1 hk)
    have hOs : Only [g1] W (W.setCell ⟨g1, ka, none⟩ (.slice av1 (l1.length + 1) cv1)) := (Only.refl _ _).setCell (.inl (by simp)) _
    have h2x := h2W.off hOs (fun k hk hm => h3 g1 hg1 (by simp at hm; exact hm ▸ hk))
    have hB2 := (HB1.out.only hOW (fun hm => by have := (hb1 _ hm).1; omega)).only hOs (by simp; have := (hf1 g1 hg1).2; omega)
    have hO2 : Only fp w (W.setCell ⟨g1, ka, none⟩ (.slice av1 (l1.length + 1) cv1)) := (hO0.then hOW fp (by simp) (fun k hk => .inl ((h4 k).2 (.inl (o1 k (mem_ownL.1 hk)).1)))).then hOs fp (fun k hk => .inl hk) (fun k hk => .inl ((h4 k).2 (.inl (by simp at hk; exact hk ▸ hg1))))
    have hv1 : ∀ k ∈ ownL (.slice av1 (l1.length + 1) cv1), k ∈ f1 ∨ w.heap.size ≤ k := fun k hk => by
      have hk := mem_ownL.1 hk
      rcases b16 with h | ⟨q, h, hq⟩
      · exact .inl (o1 k (by rw [← h]; exact hk)).1
      · rw [h] at hk; injection hk with hk; exact .inr (by omega)
    have e2W := (hOs.cell (p := ⟨g2, kb, none⟩) (by show g2 < _; have := (hf2 g2 hg2).2; have := hOW.size; omega) (fun hm => h3 g1 hg1 (by simp at hm; exact hm ▸ hg2))).trans ((hOW.cell (p := ⟨g2, kb, none⟩) (by show g2 < _; have := (hf2 g2 hg2).2; omega) (fun hm => h3 g2 (o1 g2 (mem_ownL.1 hm)).1 hg2)).trans ((hO0.cell (p := ⟨g2, kb, none⟩) (hf2 g2 hg2).2 (by simp)).trans e2))
    have z2W := (hOs.frozen (p := ⟨g2, kb, none⟩) (by show g2 < _; have := (hf2 g2 hg2).2; have := hOW.size; omega) (fun hm => h3 g1 hg1 (by simp at hm; exact hm ▸ hg2))).trans ((hOW.frozen (p := ⟨g2, kb, none⟩) (by show g2 < _; have := (hf2 g2 hg2).2; omega) (fun hm => h3 g2 (o1 g2 (mem_ownL.1 hm)).1 hg2)).trans ((hO0.frozen (p := ⟨g2, kb, none⟩) (hf2 g2 hg2).2 (by simp)).trans z2))
    have r2W := ((r2.off hO0 (by simp)).off hOW (fun k hk hm => h3 k (o1 k (mem_ownL.1 hm)).1 (o2 k hk).1)).off hOs (fun k hk hm => h3 g1 hg1 (by simp at hm; exact hm ▸ (o2 k hk).1))
    go_wp2
    generalize hw2 : W.setCell ⟨g1, ka, none⟩ (.slice av1 (l1.length + 1) cv1) = w2 at *
    clear ht hz hw2
    have hsz2 : w.heap.size ≤ w2.heap.size := hO2.size
    have HB2 := Lib.hid hB2
    have e2' := e2W
    have z2' := z2W
    have Hr2 := Lib.hid r2W
    have HN1 := Lib.hid hN1
    have HN2 := Lib.hid h2x
    have HO2 := Lib.hid hO2
    have Hv1 := Lib.hid hv1
    clear hN1 h2x hO2 hv1 r2W e2W z2W hB2 hOs h2W hOW hO' b16 h16 hy q1 q2
    have hfar : ∀ k ∈ f2, k < w.heap.size ∧ k ∉ f1 := fun k hk => ⟨(hf2 k hk).2, fun h => h3 k h hk⟩
    have HS2 : Hid (∀ W, Only (ownL u2) w2 W → W.cell? ⟨w.heap.size, 1, none⟩ = some (.slice (some ⟨g2, 0, none⟩) n c2) ∧ W.cell? ⟨g2, kb, none⟩ = some u2) := Lib.hid (fun W hW => ⟨(HB2.out.only hW (fun hm => by have := hb2 _ hm; omega)).cell 1, (hW.cell (p := ⟨g2, kb, none⟩) (by show g2 < _; have := (hf2 g2 hg2).2; omega) (fun hm => (hb2 _ hm).2 rfl)).trans e2'⟩)
    have hdr : Only [] w2 w2.drew := (Only.refl [] w2).drew
    refine wp_region_app (P := Try.prog) 12 (by kernel_rfl) (by kernel_rfl) (fun i => i == 10 || i == 11) 10 (ownL u2)
      [SP.is (.pointer (some ⟨w.heap.size, 1, none⟩)),
       SP.is (.slice (some ⟨g2, 0, none⟩) n c2),
       SP.is (.int .i64 (kb : Nat)),
       SP.is (.pointer (some ⟨w.heap.size, 1, none⟩)),
       SP.is (.slice (some ⟨g2, 0, none⟩) n c2),
       SP.is (.int .i64 (kb : Nat)),
       SP.is (.pointer (some ⟨g2, kb, none⟩)),
       SP.is (u2),
       SP.is (.int .i64 (ka : Nat)),
       ⟨fun v W => ∃ q, v = .slice (some ⟨q, 0, none⟩) 1 1 ∧ IsBlk W q (.cells #[iv ka] 3) ∧ w2.heap.size ≤ q, fun _ _ _ ⟨q, e, h, h1⟩ hO => ⟨q, e, h.only hO (by simp), h1⟩⟩,
       ⟨fun v W => RowI W base v (l2 ++ [ka]) ∧ (v.ownBlock = u2.ownBlock ∨ ∃ q, v.ownBlock = some q ∧ w2.heap.size ≤ q), fun _ _ _ h hO => ⟨h.1.off hO (by simp), h.2⟩⟩,
       SP.is (.pointer (some ⟨g2, kb, none⟩))] ?_ ?_ ?_
    · refine ⟨?_, ?_, ?_, ?_, ?_, ?_, ?_, ?_, ?_, ?_, ?_, ?_, trivial⟩
      all_goals first
        | exact .inl rfl
        | exact .inr (fun _ _ _ h _ => h)
        | exact .inr (fun _ _ _ ⟨q, e, h, h1⟩ hO => ⟨q, e, h.only hO (fun hm => by have := (hb2 _ hm).1; omega), h1⟩)
    · simp only [List.take_succ_cons, List.take_zero]
      refine StepsOK.cons ?_ (StepsOK.cons ?_ (StepsOK.cons ?_ (StepsOK.cons ?_ (StepsOK.cons ?_ (StepsOK.cons ?_ (StepsOK.cons ?_ (StepsOK.cons ?_ (StepsOK.cons ?_ (StepsOK.cons ?_ (StepsOK.cons ?_ (StepsOK.cons ?_ StepsOK.nil)))))))))))
      · intro a W L N hR hold hφ hcl hkp hd K hK
        have e3 := hold 3 (by kernel_rfl)
        clear hold hφ hcl hkp hd
        rw [if_pos (by rfl)]
        go_simp
        exact hK _ _ (AppRk.small (by decide) (Only.refl _ _)) rfl
      · intro a W L N hR hold hφ hcl hkp hd K hK
        have e18 := got hφ (hd 0 (by kernel_rfl)) rfl rfl rfl
        obtain ⟨q1, q2⟩ := HS2.out W (hdr.then hR (ownL u2) (by simp) (fun i hi => .inl hi))
        clear hold hφ hcl hkp hd
        rw [if_pos (by rfl)]
        go_simp
        exact hK _ _ (AppRk.small (by decide) (Only.refl _ _)) rfl
      · intro a W L N hR hold hφ hcl hkp hd K hK
        have e2 := hold 2 (by kernel_rfl)
        clear hold hφ hcl hkp hd
        rw [if_pos (by rfl)]
        go_simp
        exact hK _ _ (AppRk.small (by decide) (Only.refl _ _)) rfl
      · intro a W L N hR hold hφ hcl hkp hd K hK
        have e3 := hold 3 (by kernel_rfl)
        clear hold hφ hcl hkp hd
        rw [if_pos (by rfl)]
        go_simp
        exact hK _ _ (AppRk.small (by decide) (Only.refl _ _)) rfl
      · intro a W L N hR hold hφ hcl hkp hd K hK
        have e21 := got hφ (hd 3 (by kernel_rfl)) rfl rfl rfl
        obtain ⟨q1, q2⟩ := HS2.out W (hdr.then hR (ownL u2) (by simp) (fun i hi => .inl hi))
        clear hold hφ hcl hkp hd
        rw [if_pos (by rfl)]
        go_simp
        exact hK _ _ (AppRk.small (by decide) (Only.refl _ _)) rfl
      · intro a W L N hR hold hφ hcl hkp hd K hK
        have e2 := hold 2 (by kernel_rfl)
        clear hold hφ hcl hkp hd
        rw [if_pos (by rfl)]
        go_simp
        exact hK _ _ (AppRk.small (by decide) (Only.refl _ _)) rfl
      · intro a W L N hR hold hφ hcl hkp hd K hK
        have e22 := got hφ (hd 4 (by kernel_rfl)) rfl rfl rfl
        have e23 := got hφ (hd 5 (by kernel_rfl)) rfl rfl rfl
        clear hold hφ hcl hkp hd
        rw [if_pos (by rfl)]
        go_simp
        exact hK _ _ (AppRk.small (by decide) (Only.refl _ _)) rfl
      · intro a W L N hR hold hφ hcl hkp hd K hK
        have e24 := got hφ (hd 6 (by kernel_rfl)) rfl rfl rfl
        obtain ⟨q1, q2⟩ := HS2.out W (hdr.then hR (ownL u2) (by simp) (fun i hi => .inl hi))
        clear hold hφ hcl hkp hd
        rw [if_pos (by rfl)]
        go_simp
        exact hK _ _ (AppRk.small (by decide) (Only.refl _ _)) rfl
      · intro a W L N hR hold hφ hcl hkp hd K hK
        have e1 := hold 1 (by kernel_rfl)
        clear hold hφ hcl hkp hd
        rw [if_pos (by rfl)]
        go_simp
        exact hK _ _ (AppRk.small (by decide) (Only.refl _ _)) rfl
      · intro a W L N hR hold hφ hcl hkp hd K hK
        have e26 := got hφ (hd 8 (by kernel_rfl)) rfl rfl rfl
        have hsz := (hdr.then hR (ownL u2) (by simp) (fun i hi => .inl hi)).size
        clear hold hφ hcl hkp hd
        rw [if_pos (by rfl)]
        go_simp
        exact hK _ _ (AppRk.small (by decide) ((Only.refl _ _).alloc _)) ⟨_, rfl, IsBlk.made W _, hsz⟩
      · intro a W L N hR hold hφ hcl hkp hd K hK
        have e25 := got hφ (hd 7 (by kernel_rfl)) rfl rfl rfl
        obtain ⟨u15, e15, q15, p15, b15, z15⟩ := gotP hφ (hd 9 (by kernel_rfl)) rfl rfl rfl
        have p15 : u15 = .slice (some ⟨q15, 0, none⟩) 1 1 := p15
        subst p15
        have hpr := hdr.plus (hcl.2.2.2.2 10 hcl.2.1).get
        have hsz := (hdr.then hR (ownL u2) (by simp) (fun i hi => .inl hi)).size
        clear hold hφ hcl hkp hd
        rw [if_pos (by rfl)]
        refine wp_append_18 _ _ 22 3 rfl Try.underlying22 (.int .i64 0) 8 infoI8 rfl (by decide) base u2 l2.length (l2.map iv) (by simp [Act.eval, e25]) (Hr2.out.off hpr (by simp)) q15 1 (iv ka) (by simp [Act.eval, e15]) (b15.cell 0) rfl (by omega) (by omega) ?_
        intro v9 w9 h9 hO9 hb9
        exact hK _ _ (AppRk.big hO9) ⟨by unfold RowI; rw [List.length_append, List.map_append]; exact h9, hb9.imp id (fun h => ⟨_, h, hsz⟩)⟩
      · intro a W L N hR hold hφ hcl hkp hd K hK
        have e19 := got hφ (hd 1 (by kernel_rfl)) rfl rfl rfl
        have e20 := got hφ (hd 2 (by kernel_rfl)) rfl rfl rfl
        clear hold hφ hcl hkp hd
        rw [if_pos (by rfl)]
        go_simp
        exact hK _ _ (AppRk.small (by decide) (Only.refl _ _)) rfl
    · intro us W hO' hus
      have p16 := hus 10 _ 28 (by omega) rfl rfl rfl
      have p17 : us 11 = .pointer (some ⟨g2, kb, none⟩) := hus 11 _ 29 (by omega) rfl rfl rfl
      clear hus
      obtain ⟨h16, b16⟩ : RowI W base (us 10) (l2 ++ [ka]) ∧ ((us 10).ownBlock = u2.ownBlock ∨ ∃ q, (us 10).ownBlock = some q ∧ w2.heap.size ≤ q) := p16
      obtain ⟨av2, cv2, ev, -⟩ := h16.slice
      simp only [List.take_succ_cons, List.take_zero, List.drop_succ_cons, List.drop_zero, fillAct, Act.put, List.setIfInBounds_toArray, List.set_cons_zero, List.set_cons_succ, Nat.reduceAdd, p17, ev]
      rw [ev] at h16 b16
      rw [show (l2 ++ [ka]).length = l2.length + 1 by simp] at h16 b16 ⊢
      clear p17 ev
      have hOW := hdr.then hO' (ownL u2) (by simp) (fun i hi => .inl hi)
      obtain ⟨q1, q2⟩ := HS2.out W hOW
      have hz : W.frozen? ⟨g2, kb, none⟩ = false := (hOW.frozen (p := ⟨g2, kb, none⟩) (by show g2 < _; have := (hf2 g2 hg2).2; omega) (fun hm => (hb2 _ hm).2 rfl)).trans z2'
      have hy := h16.one
      have ht := store_one8 (P := Try.prog) q2 hz hy
      have hN2 := (HN2.out).put (w := w2) (w' := W) (i := kb) (k := ka) (l := l2) (by rw [nxOf_get n (swapE es) hb, hL2]) (by rw [nxOf_len]) e2' h16 hOW b16
      have hOs : Only [g2] W (W.setCell ⟨g2, kb, none⟩ (.slice av2 (l2.length + 1) cv2)) := (Only.refl _ _).setCell (.inl (by simp)) _
      have hN1 := ((HN1.out).off hOW (fun k hk hm => by
        have h5 := (o2 k (mem_ownL.1 hm)).1
        rcases List.mem_append.1 hk with hk | hk
        · exact h3 k hk h5
        · rcases Hv1.out k hk with h | h
          · exact h3 k h h5
          · have := (hf2 k h5).2; omega)).off hOs (fun k hk hm => by
        simp at hm; subst hm
        rcases List.mem_append.1 hk with hk | hk
        · exact h3 k hk hg2
        · rcases Hv1.out k hk with h | h
          · exact h3 k h hg2
          · have := (hf2 k hg2).2; omega)
      have hO3 : Only fp w (W.setCell ⟨g2, kb, none⟩ (.slice av2 (l2.length + 1) cv2)) := (HO2.out.then hOW fp (fun k hk => .inl hk) (fun k hk => .inl ((h4 k).2 (.inr (o2 k (mem_ownL.1 hk)).1)))).then hOs fp (fun k hk => .inl hk) (fun k hk => .inl ((h4 k).2 (.inr (by simp at hk; exact hk ▸ hg2))))
      have hv2 : ∀ k ∈ ownL (.slice av2 (l2.length + 1) cv2), k ∈ f2 ∨ w2.heap.size ≤ k := fun k hk => by
        have hk := mem_ownL.1 hk
        rcases b16 with h | ⟨q, h, hq⟩
        · exact .inl (o2 k (by rw [← h]; exact hk)).1
        · rw [h] at hk; injection hk with hk; exact .inr (by omega)
      have hl1' : ∀ k ∈ f1 ++ ownL (.slice av1 (l1.length + 1) cv1), k < w2.heap.size := by obtain ⟨_, -, -, h, -⟩ := HN1.out; exact fun k hk => (h k hk).2
      go_wp2
      go_end0
      refine ⟨rfl, fp ++ (ownL (.slice av1 (l1.length + 1) cv1) ++ ownL (.slice av2 (l2.length + 1) cv2)), ⟨f1 ++ ownL (.slice av1 (l1.length + 1) cv1), f2 ++ ownL (.slice av2 (l2.length + 1) cv2), ?_, ?_, fun k hk hk2 => ?_, fun k => ?_⟩, hO3, fun k hk => ?_⟩
      · rw [nxOf_snoc, hL1]; exact hN1
      · rw [show swapE (es ++ [(ka, kb)]) = swapE es ++ [(kb, ka)] by simp [swapE], nxOf_snoc, hL2]; exact hN2
      · have h5 := hl1' k hk
        rcases List.mem_append.1 hk2 with h6 | h6
        · rcases List.mem_append.1 hk with h7 | h7
          · exact h3 k h7 h6
          · rcases Hv1.out k h7 with h | h
            · exact h3 k h h6
            · have := (hf2 k h6).2; omega
        · rcases hv2 k h6 with h | h
          · rcases List.mem_append.1 hk with h7 | h7
            · exact h3 k h7 h
            · rcases Hv1.out k h7 with h8 | h8
              · exact h3 k h8 h
              · have := (hf2 k h).2; omega
          · omega
      · simp only [List.mem_append, h4]
        constructor
        · rintro ((h | h) | h | h) <;> simp [h]
        · rintro ((h | h) | h | h) <;> simp [h]
      · rcases List.mem_append.1 hk with h | h
        · exact .inl h
        · rcases List.mem_append.1 h with h | h
          · rcases Hv1.out k h with h | h
            · exact .inl ((h4 k).2 (.inl h))
            · exact .inr h
          · rcases hv2 k h with h | h
            · exact .inl ((h4 k).2 (.inr h))
            · exact .inr (by omega)

end Go.Proofs.Ytgkddbpfjbgelaa
