/-
  The walk of the law StoreAgain: it returns true, whatever its arguments are, and turns nothing that was there.
-/
import Derived.Test.YtkpfplejooplfaaStV
namespace Go.Proofs.Ytkpfplejooplfaa
set_option maxRecDepth 100000
set_option linter.unusedVariables false
open Go.RowKit Go.Sort Go.Maps

theorem clone_any (w : World) (b : Nat) (F : List FileM) (h : SetAt w b F) :
    Calls Try.prog 54 #[.map (some b)] w fun e w' => e = .returned (.map (some w.heap.size)) ∧ SetAt w' w.heap.size F ∧ Only [] w w' := by
  refine (AnyW.maps_Clone_owns Try.cloneA 9 RF b F.length (setD F) w h).mono ?_
  rintro e w' ⟨rfl, h1, -, hB⟩
  exact ⟨rfl, h1, ⟨hB.os, hB.tape, hB.output, hB.size, fun k hk _ => hB.block k hk⟩⟩

/-- A change that makes a file. -/
def chgB (f : FileM) : List UInt8 := leB 1 1 ++ fileB f
theorem get_own : ∀ {N : List FileM} {f : FileM}, (N.map (·.1)).Nodup → f ∈ N → getS f.1 N = some f
  | [], f, _, h => by cases h
  | g :: r, f, hn, h => by
    rw [List.map_cons, List.nodup_cons] at hn
    unfold getS
    rw [List.find?_cons]
    rcases List.mem_cons.1 h with rfl | h
    · simp
    · have hne : g.1 ≠ f.1 := fun e => hn.1 (List.mem_map.2 ⟨f, h, e.symm⟩)
      have := get_own hn.2 h
      unfold getS at this
      have hbf : (g.1 == f.1) = false := by simpa using hne
      rw [hbf]
      exact this
theorem chgL_none {N : List FileM} (hn : (N.map (·.1)).Nodup) (hne : ∀ f ∈ N, 0 < f.1.length) : chgL [] N (N.map (·.1)) = N.map chgB := by
  have key : ∀ M : List FileM, (∀ f ∈ M, f ∈ N) → (M.map (·.1)).filterMap (chgE [] N) = M.map chgB := by
    intro M
    induction M with
    | nil => simp
    | cons f r ih =>
      intro hM
      have hf := hM f (by simp)
      have hg := get_own hn hf
      have h0 := hne f hf
      have e1 : chgE [] N f.1 = some (chgB f) := by
        have ha : atF f.1 N = f := by unfold atF; rw [hg]; rfl
        have hb : atF f.1 [] = ([], []) := rfl
        have hab : f ≠ ([], []) := fun e => by rw [e] at h0; simp at h0
        unfold chgE
        rw [ha, hb, if_neg hab, hg]
        rfl
      rw [List.map_cons, List.filterMap_cons, e1, ih (fun g hg => hM g (by simp [hg]))]
      rfl
  exact key N (fun f h => h)
theorem changeB_none {N : List FileM} (hn : (N.map (·.1)).Nodup) (hne : ∀ f ∈ N, 0 < f.1.length) : changeB [] N (N.map (·.1)) = leB 1 N.length ++ N.flatMap chgB := by
  unfold changeB
  rw [chgL_none hn hne, List.length_map, List.flatMap_def]
theorem chg_len {F : List FileM} (h : ∀ f ∈ F, f.1.length ≤ 255 ∧ f.2.length ≤ 3000) : (F.flatMap chgB).length ≤ 3301 * F.length := by
  induction F with
  | nil => simp
  | cons f r ih =>
    have h1 := h f (by simp)
    have h2 := ih (fun g hg => h g (by simp [hg]))
    rw [List.flatMap_cons, List.length_append, List.length_cons]
    unfold chgB
    rw [List.length_append, length_leB, length_fileB]
    unfold chgB at h2
    omega
theorem Kept.pos {N : List FileM} (h : Kept N) : ∀ f ∈ N, 0 < f.1.length := fun f hf => by
  have := (h.good.1 f hf).1
  simp only [nameM, Bool.and_eq_true, decide_eq_true_eq] at this
  omega
theorem Kept.take {N : List FileM} (h : Kept N) (j : Nat) : ((N.take j).map (·.1)).Nodup := by
  rw [List.map_take]
  exact h.good.2.sublist (List.take_sublist _ _)

set_option maxHeartbeats 8000000 in
theorem readChange_any (w : World) (m b o cap : Nat) (N : List FileM) (hm : SetAt w m []) (hN : Kept N) (h : Src w (some ⟨b, o, none⟩) (changeB [] N (N.map (·.1))).length (changeB [] N (N.map (·.1)))) (hb : b < w.heap.size) (hc : (changeB [] N (N.map (·.1))).length ≤ cap) :
    Calls Try.prog 35 #[.map (some m), .slice (some ⟨b, o, none⟩) (changeB [] N (N.map (·.1))).length cap] w (ReadS w N) := by
  have Hm := Lib.hid hm
  have HN := Lib.hid hN
  have HM := Lib.hid hN.modest
  have hlN := hN.len
  have hcb := changeB_none hN.good.2 hN.pos
  have hbl : (leB 1 N.length ++ N.flatMap chgB).length ≤ 100000 := by
    have h2 := chg_len hN.modest.2
    rw [List.length_append, length_leB]
    omega
  have Hcb : Hid (changeB [] N (N.map (·.1)) = leB 1 N.length ++ N.flatMap chgB) := Lib.hid hcb
  rw [hcb] at h hc ⊢
  have H := Lib.hid h
  clear h hN hm hcb
  generalize hB : leB 1 N.length ++ N.flatMap chgB = B at *
  have HB := Lib.hid hB
  clear hB
  have hOa := Lib.hid ((Only.refl [] w).alloc (.cells #[.slice (some ⟨b, o, none⟩) B.length cap] 103))
  have HR0 : Hid (RdAt (w.alloc (.cells #[.slice (some ⟨b, o, none⟩) B.length cap] 103)) w.heap.size b B) := Lib.hid ⟨o, cap, IsBlk.made w _, H.out.more hOa.out, hc, by omega⟩
  have hml := Hm.out.lt
  go_enter Try.func35, Try.ntmps35
  go_wp2_with fail
  have hszA : (w.alloc (.cells #[.slice (some ⟨b, o, none⟩) B.length cap] 103)).heap.size = w.heap.size + 1 := by simp
  generalize w.alloc (.cells #[.slice (some ⟨b, o, none⟩) B.length cap] 103) = wA at *
  generalize hq : w.heap.size = q at *
  have Hq := Lib.hid hq
  clear hq
  refine (clone_any _ m [] (Hm.out.more hOa.out)).mono ?_
  rintro e w0 ⟨rfl, hc0, hO0⟩
  have HO0 := Lib.hid hO0
  have HR00 := Lib.hid (HR0.out.keep hO0 (by simp) (by simp))
  have Hc0 := Lib.hid hc0
  have hcl := hc0.lt
  clear hO0 HR0 hc0
  generalize hcc : wA.heap.size = c at *
  have HOw0 := Lib.hid (hOa.out.plus HO0.out)
  have hqc : q < c := by omega
  clear hcc hszA
  go_wp2_with fail
  have e1 := rdnum_any w0 q b (leB 1 N.length) (N.flatMap chgB) (by simp [length_leB]) (by rw [HB.out]; omega) (by rw [HB.out]; exact HR00.out)
  rw [length_leB, numB_leB_lt (by omega)] at e1
  refine e1.mono ?_
  rintro e w1 ⟨rfl, hR1, hO1⟩
  have HR1 := Lib.hid hR1
  have Hc1 := Lib.hid (Hc0.out.keep hO1 (by simp; omega))
  have HO1 : Hid (Only [q, c] w0 w1) := Lib.hid (hO1.into (fun k hk => .inl (by simp at hk ⊢; omega)))
  clear e1 hR1 hO1 Hc0 HR00
  go_wp2_with fail
  go_loopw [16] (fun i wr => ∃ j : Nat, j ≤ N.length ∧ i = .int .i64 j ∧ SetAt wr c (buildF (N.take j)) ∧ RdAt wr q b ((N.drop j).flatMap chgB) ∧ Only [q, c] w0 wr) (fun i _ => N.length - (intOf i).toNat)
  case atStart => exact ⟨0, by omega, rfl, Hc1.out, HR1.out, HO1.out⟩
  case round =>
    obtain ⟨j, hj, rfl, hset, hR, hO⟩ := hrel
    have Hset := Lib.hid hset
    have HR := Lib.hid hR
    have HO := Lib.hid hO
    have hszr := hO.size
    clear hset hR hO
    by_cases hlt : j < N.length
    · have hlti : (j : Int) < (N.length : Int) := by omega
      have Htk : Hid (N.take (j + 1) = N.take j ++ [N[j]]) := Lib.hid (by rw [List.take_add_one, List.getElem?_eq_getElem hlt]; rfl)
      have hm := HM.out.2 N[j] (List.getElem_mem hlt)
      have hdr : (N.drop j).flatMap chgB = leB 1 1 ++ (fileB N[j] ++ (N.drop (j + 1)).flatMap chgB) := by rw [List.drop_eq_getElem_cons hlt, List.flatMap_cons]; unfold chgB; rw [List.append_assoc]
      have hlen2 : (leB 1 1 ++ (fileB N[j] ++ (N.drop (j + 1)).flatMap chgB)).length ≤ 1000000 := by
        rw [← hdr]
        have := chg_len (F := N.drop j) (fun f hf => HM.out.2 f (List.mem_of_mem_drop hf))
        rw [List.length_drop] at this
        omega
      have hlen3 : (fileB N[j] ++ (N.drop (j + 1)).flatMap chgB).length ≤ 1000000 := by rw [List.length_append] at hlen2; omega
      have HRj : Hid (RdAt wr q b (leB 1 1 ++ (fileB N[j] ++ (N.drop (j + 1)).flatMap chgB))) := Lib.hid (by rw [← hdr]; exact HR.out)
      have hbld : (buildF (N.take j)).length < maxLen := by rw [(build_perm _ (HN.out.take j)).length_eq, List.length_take]; unfold maxLen; omega
      clear hdr HR
      generalize N[j] = f at *
      obtain ⟨fn, ft⟩ := f
      simp only at hm
      have e2 := rdnum_any wr q b (leB 1 1) _ (by simp [length_leB]) hlen2 HRj.out
      rw [length_leB, numB_leB_lt (by omega)] at e2
      go_wp2_with fail
      refine e2.mono ?_
      rintro e w2 ⟨rfl, hR2, hO2⟩
      have HO2 : Hid (Only [q, c] w0 w2) := Lib.hid ((HO.out.trans hO2).into (fun k hk => .inl (by simp at hk ⊢; omega)))
      have HR2 := Lib.hid hR2
      have Hset2 := Lib.hid (Hset.out.keep hO2 (by simp; omega))
      have hsz2 := hO2.size
      clear hR2 hO2 Hset e2
      go_wp2_with fail
      refine (rdfile_any _ q b (fn, ft) _ hm.1 hm.2 hlen3 HR2.out (by omega) (by omega)).mono ?_
      rintro e w3 ⟨rfl, hR3, hO3⟩
      unfold fileV encStr
      simp only
      have HO3 : Hid (Only [q, c] w0 w3) := Lib.hid ((HO2.out.trans hO3).into (fun k hk => .inl (by simp at hk ⊢; omega)))
      have HR3 := Lib.hid hR3
      have Hset3 := Lib.hid (Hset2.out.keep hO3 (by simp; omega))
      clear hR3 hO3 Hset2
      have hOa3 := Lib.hid ((Only.refl [] w3).alloc (.cells #[.string ⟨fn.toArray⟩, .string ⟨ft.toArray⟩] 33))
      have hqb := IsBlk.made w3 (.cells #[.string ⟨fn.toArray⟩, .string ⟨ft.toArray⟩] 33)
      have Hq0 : Hid ((w3.alloc (.cells #[.string ⟨fn.toArray⟩, .string ⟨ft.toArray⟩] 33)).cell? ⟨w3.heap.size, 0, none⟩ = some (.string ⟨fn.toArray⟩)) := Lib.hid (hqb.cell 0)
      have Hq1 : Hid ((w3.alloc (.cells #[.string ⟨fn.toArray⟩, .string ⟨ft.toArray⟩] 33)).cell? ⟨w3.heap.size, 1, none⟩ = some (.string ⟨ft.toArray⟩)) := Lib.hid (hqb.cell 1)
      have Hset4 := Lib.hid (Hset3.out.more hOa3.out)
      have HR4 := Lib.hid (HR3.out.keep hOa3.out (by simp) (by simp))
      have HO4 : Hid (Only [q, c] w0 (w3.alloc (.cells #[.string ⟨fn.toArray⟩, .string ⟨ft.toArray⟩] 33))) := Lib.hid ((HO3.out.trans hOa3.out).into (fun k hk => .inl (by simpa using hk)))
      clear hqb hOa3 HR3 HO3 Hset3
      have hfnm : fn.length ≤ maxLen := by unfold maxLen; omega
      go_wp2_with (refine wpList_mapUpdate_own _ rfl _ _ _ _ rfl 9 33 (string_keyed Try.underlying9) Try.underlying56 RF c _ _ rfl Hset4.out hbld (encStr fn) (fileV (fn, ft)) (.string fn) rfl rfl (key_str hfnm) (fileD (fn, ft)) [] (RF_file _) ?_; intro W5 h5 hg5)
      have hO5 : Only [c] _ W5 := ⟨hg5.os, hg5.tape, hg5.output, hg5.size, fun k hk hm => hg5.block k hk (fun e => by injection e with e; simp at hm; omega)⟩
      have hR5 := HR4.out.keep hO5 (by simp; omega) (by simp; omega)
      have hO6 : Only [q, c] w0 W5 := (HO4.out.trans hO5).into (fun k hk => .inl (by simp at hk ⊢; omega))
      go_roundw
      case rel =>
        refine ⟨j + 1, by omega, by go_num, ?_, hR5, hO6⟩
        rw [Htk.out, build_snoc]
        have := put_setD (fn, ft) (buildF (N.take j))
        simp only at this
        rw [this] at h5
        exact SetAt.tight h5
      case measure => simp [intOf]; omega
    · have hge : ¬ (j : Int) < (N.length : Int) := by omega
      have hset := Hset.out
      rw [List.take_of_length_le (by omega), HN.out.build] at hset
      have HOw : Hid (Only [] w wr) := Lib.hid ((HOw0.out.trans HO.out).into (fun k hk => by simp at hk; have := Hq.out; exact .inr (by omega)))
      have HsN := Lib.hid hset
      clear hset Hset
      go_wp2_with fail
      refine (list_any _ c N HsN.out (by omega)).mono ?_
      rintro e w5 ⟨v5, rfl, hv5, hO5⟩
      obtain ⟨aT, cT, rfl, hfT, hbT⟩ := hv5.files
      have HfT := Lib.hid hfT
      have HO5 := Lib.hid (HOw.out.plus hO5)
      clear hv5 hfT hbT hO5
      go_wp2_with fail
      refine (setOf_any _ aT _ cT N HfT.out (fun f hf => by have := HM.out.2 f hf; unfold maxLen; omega) (by unfold maxLen; omega)).mono ?_
      rintro e w6 ⟨hyes, hno, hO6⟩
      obtain ⟨bn, rfl, hset, hbn⟩ := hyes HN.out.sound
      rw [HN.out.build] at hset
      have HO6 := Lib.hid (HO5.out.plus hO6)
      have Hset := Lib.hid hset
      have hqb : q ≤ bn := by have := HO5.out.size; have := Hq.out; omega
      clear hyes hno hO6 hset
      go_wp2_with fail
      refine (change_any _ bn m [] N (Hm.out.more HO6.out) Hset.out rfl HM.out).mono ?_
      rintro e w7 ⟨v7, rfl, hv7, hO7⟩
      rw [Hcb.out] at hv7
      obtain ⟨a7, c7, rfl, hs7, hn7, -⟩ := OwnB.shape hv7
      have Hs7 := Lib.hid hs7
      have HO7 := Lib.hid (HO6.out.plus hO7)
      have Hset7 := Lib.hid (Hset.out.more hO7)
      clear hv7 hs7 hn7 hO7 Hset
      go_wp2_with fail
      refine (equal_same _ a7 _ _ c7 cap B Hs7.out (H.out.more HO7.out)).mono ?_
      rintro e w' ⟨rfl, rfl⟩
      go_wp2
      go_ret2
      exact ⟨bn, rfl, Hset7.out, by have := Hq.out; omega, HO7.out⟩

end Go.Proofs.Ytkpfplejooplfaa
namespace Go.Proofs.Ytkpfplejooplfaa
set_option maxRecDepth 100000
set_option linter.unusedVariables false
open Go.RowKit Go.Sort Go.Maps

/-- Records that make the files N: these alone, or none and a change to them. -/
def RowsOf (N : List FileM) (rs : List (List UInt8)) : Prop := rs = [setB [], changeB [] N (N.map (·.1))] ∨ rs = [setB N]
def FilesTo (w : World) (N : List FileM) (e : Ending) (w' : World) : Prop := ∃ bn, e = .returned (.map (some bn)) ∧ SetAt w' bn N ∧ w.heap.size ≤ bn ∧ Only [] w w'
theorem kept_none : Kept [] := ⟨⟨by simp, by simp⟩, by simp, rfl⟩
theorem setB_pos (N : List FileM) : 0 < (setB N).length := by unfold setB; rw [List.length_append, length_leB]; omega
theorem changeB_pos (N : List FileM) (ns : List (List UInt8)) : 0 < (changeB [] N ns).length := by unfold changeB; rw [List.length_append, length_leB]; omega

set_option maxHeartbeats 4000000 in
theorem filesOf_one (w : World) (a : Option Addr) (cap : Nat) (N : List FileM) (hN : Kept N) (h : BytesAt w a 1 [setB N]) (hc : 1 ≤ cap) :
    Calls Try.prog 20 #[.slice a 1 cap] w (FilesTo w N) := by
  obtain ⟨b, o, rfl, hb, hr⟩ := h.2 (by omega)
  obtain ⟨da, dc, c0, hs, hl⟩ := hr 0 _ rfl
  obtain ⟨sb, so, rfl, hsb, -⟩ := hs.2 (setB_pos N)
  have Hs := Lib.hid hs
  rw [Nat.add_zero] at c0
  clear h hr hs
  go_enter Try.func20, Try.ntmps20
  go_wp2_with fail
  refine (readWhole_any _ sb so dc N hN Hs.out hsb hl).mono ?_
  rintro e w1 ⟨bn, rfl, hset, hbn, hO⟩
  have Hset := Lib.hid hset
  have HO := Lib.hid hO
  clear hset hO
  by_cases h1 : cap = 1
  · subst h1
    go_wp2_with fail
    go_loopw [26, 3] (fun i m wr => i = .int .i64 0 ∧ m = .map (some bn) ∧ w1 = wr) (fun i _ _ => 1 - (intOf i).toNat)
    case atStart => exact ⟨rfl, rfl, rfl⟩
    case round =>
      obtain ⟨rfl, rfl, rfl⟩ := hrel
      go_wp2
      go_ret
      exact ⟨bn, rfl, Hset.out, hbn, HO.out⟩
  · go_wp2_with fail
    go_loopw [26, 3] (fun i m wr => i = .int .i64 0 ∧ m = .map (some bn) ∧ w1 = wr) (fun i _ _ => 1 - (intOf i).toNat)
    case atStart => exact ⟨rfl, rfl, rfl⟩
    case round =>
      obtain ⟨rfl, rfl, rfl⟩ := hrel
      go_wp2
      go_ret
      exact ⟨bn, rfl, Hset.out, hbn, HO.out⟩

set_option maxHeartbeats 4000000 in
theorem filesOf_two (w : World) (a : Option Addr) (cap : Nat) (N : List FileM) (hN : Kept N) (h : BytesAt w a 2 [setB [], changeB [] N (N.map (·.1))]) (hc : 2 ≤ cap) :
    Calls Try.prog 20 #[.slice a 2 cap] w (FilesTo w N) := by
  obtain ⟨b, o, rfl, hb, hr⟩ := h.2 (by omega)
  obtain ⟨da, dc, c0, hs, hl⟩ := hr 0 _ rfl
  obtain ⟨ea, ec, c1, hs1, hl1⟩ := hr 1 _ rfl
  obtain ⟨sb, so, rfl, hsb, -⟩ := hs.2 (setB_pos [])
  obtain ⟨tb, tq, rfl, htb, -⟩ := hs1.2 (changeB_pos N _)
  have Hs := Lib.hid hs
  have Hs1 := Lib.hid hs1
  have HN := Lib.hid hN
  rw [Nat.add_zero] at c0
  clear h hr hs hs1 hN
  have hc1 : ¬ cap = 1 := by omega
  go_enter Try.func20, Try.ntmps20
  go_wp2_with fail
  refine (readWhole_any _ sb so dc [] kept_none Hs.out hsb hl).mono ?_
  rintro e w1 ⟨bn, rfl, hset, hbn, hO⟩
  have Hset := Lib.hid hset
  have HO := Lib.hid hO
  have hsz := hO.size
  have c1' : w1.cell? ⟨b, o + 1, none⟩ = some (.slice (some ⟨tb, tq, none⟩) (changeB [] N (N.map (·.1))).length ec) := (hO.cell (p := ⟨b, o + 1, none⟩) hb (by simp)).trans c1
  have Hs2 := Lib.hid (Hs1.out.more hO)
  clear hset hO c0 c1
  go_wp2_with fail
  go_loopw [26, 3] (fun i m wr => (i = .int .i64 0 ∧ m = .map (some bn) ∧ w1 = wr) ∨ (i = .int .i64 1 ∧ ∃ bm, m = .map (some bm) ∧ SetAt wr bm N ∧ w.heap.size ≤ bm ∧ Only [] w wr)) (fun i _ _ => 2 - (intOf i).toNat)
  case atStart => exact .inl ⟨rfl, rfl, rfl⟩
  case round =>
    rcases hrel with ⟨rfl, rfl, rfl⟩ | ⟨rfl, bm, rfl, hsm, hbm, hOm⟩
    · go_wp2_with fail
      refine (readChange_any _ bn tb tq ec N Hset.out HN.out Hs2.out (by omega) hl1).mono ?_
      rintro e w2 ⟨bm, rfl, hsm, hbm, hOm⟩
      have Hsm := Lib.hid hsm
      have HOm := Lib.hid (HO.out.plus hOm)
      clear hsm hOm
      go_wp2
      go_roundw
      case rel => exact .inr ⟨rfl, bm, rfl, Hsm.out, by omega, HOm.out⟩
      case measure => simp [intOf]
    · have Hsm := Lib.hid hsm
      have HOm := Lib.hid hOm
      clear hsm hOm
      go_wp2
      go_ret
      exact ⟨bm, rfl, Hsm.out, hbm, HOm.out⟩

theorem filesOf_kept (w : World) (a : Option Addr) (cap : Nat) (N : List FileM) (rs : List (List UInt8)) (hN : Kept N) (hr : RowsOf N rs) (h : BytesAt w a rs.length rs) (hc : rs.length ≤ cap) :
    Calls Try.prog 20 #[.slice a rs.length cap] w (FilesTo w N) := by
  rcases hr with rfl | rfl
  · exact filesOf_two w a cap N hN h hc
  · exact filesOf_one w a cap N hN h hc

set_option maxHeartbeats 4000000 in
theorem openS_kept (w : World) (lp0 pd bl bm : Nat) (D : DS) (L : LS) (rs : List (List UInt8)) (k : Int) (N : List FileM) (h : WL w lp0 pd bl bm D L rs k) (hN : Kept N) (hr : RowsOf N rs) (hp : partsN (setB N).length ≤ 255) (hsz : partsN (setB N).length ≤ L.size) (hg : L.gen < 4294967295) (hk0 : 0 ≤ k) (hk : k < 100000) :
    Calls Try.prog 10 #[.pointer (some ⟨pd, 0, none⟩)] w fun e w' => ∃ sp lp b D' L', e = .returned (.tuple #[.pointer (some ⟨sp, 0, none⟩), .int .i64 0]) ∧ StAt w' sp lp pd bl bm b D' L' [setB N] (k + partsN (setB N).length + 1) N ∧ L'.size = L.size ∧ L'.gen = L.gen + 1 ∧ Only [pd, bl, bm] w w' := by
  have h1 := h.disk.plt
  have h2 := h.disk.blt
  have h3 := h.disk.mlt
  have H := Lib.hid h
  have HN := Lib.hid hN
  have Hr := Lib.hid hr
  clear h hN hr
  go_enter Try.func10, Try.ntmps10
  go_wp2_with fail
  refine (opened _ lp0 pd bl bm D L rs k H.out).mono ?_
  rintro e w1 ⟨lp, a, cap, rfl, hW, ⟨hB, hcap⟩, hlp, hO1⟩
  have HW := Lib.hid hW
  have HO1 := Lib.hid hO1
  have HB := Lib.hid hB
  have hlw := IsBlk.lt hW.log
  clear hW hO1 hB
  go_wp2_with fail
  refine (filesOf_kept _ a cap N rs HN.out Hr.out HB.out hcap).mono ?_
  rintro e w2 ⟨b, rfl, hS2, hb, hO2⟩
  have hsz2 := hS2.lt
  have HW2 := Lib.hid (HW.out.more hO2)
  have HS2 := Lib.hid hS2
  have HO2 := Lib.hid (HO1.out.plus hO2)
  have hs1 := HO1.out.size
  clear hO2 hS2 HW HO1 HB
  go_wp2_with fail
  refine (whole_any _ b N HS2.out HN.out.modest).mono ?_
  rintro e w3 ⟨v3, rfl, hv3, hO3⟩
  obtain ⟨a3, c3, rfl, hs3, hn3, -⟩ := OwnB.shape hv3
  have HW3 := Lib.hid (HW2.out.more hO3)
  have HS3 := Lib.hid (HS2.out.more hO3)
  have HO3 := Lib.hid (HO2.out.plus hO3)
  have Hs3 := Lib.hid hs3
  clear hv3 hn3 hs3 hO3 HW2 HS2 HO2
  go_wp2_with fail
  refine (freshened _ lp pd bl bm D L rs k a3 c3 (setB N) HW3.out Hs3.out hp hsz hg hk0 hk).mono ?_
  rintro e w4 ⟨rfl, D4, hW4, hO4⟩
  have hbn : b ∉ [lp, pd, bl, bm] := by simp; omega
  have HW4 := Lib.hid hW4
  have HS4 := Lib.hid (HS3.out.keep hO4 hbn)
  have HO4 := Lib.hid (HO3.out.trans hO4)
  have hsz4 := HO4.out.size
  have hb4 := HS4.out.lt
  clear hW4 hO4 HW3 HS3 HO3 Hs3
  go_wp2
  go_ret2
  have hO5 := (Only.refl [] w4).alloc (.cells (stcells lp b) 61)
  refine ⟨w4.heap.size, lp, b, D4, _, rfl, ⟨IsBlk.made w4 _, HW4.out.more hO5, HS4.out.more hO5, ?_, hbn⟩, rfl, rfl, ?_⟩
  · have q1 := HW4.out.disk.plt; have q2 := HW4.out.disk.blt; have q3 := HW4.out.disk.mlt; have q4 := IsBlk.lt HW4.out.log
    simp; omega
  · exact (HO4.out.plus hO5).into (fun j hj => by simp at hj; rcases hj with rfl | hj; exact .inr hlp; exact .inl (by simpa using hj))

end Go.Proofs.Ytkpfplejooplfaa
namespace Go.Proofs.Ytkpfplejooplfaa
set_option maxRecDepth 100000
set_option linter.unusedVariables false
open Go.RowKit Go.Sort Go.Maps

/-- A disk with a log that makes the files N, behind j openings. -/
def AgainAt (w : World) (pd bl bm : Nat) (N : List FileM) (j : Nat) (k : Int) : Prop := ∃ lp D L rs, WL w lp pd bl bm D L rs k ∧ RowsOf N rs ∧ L.size = 128 ∧ L.gen ≤ 2 + (j : Int) ∧ 0 ≤ k ∧ k ≤ 602 + 200 * (j : Int)
theorem AgainAt.blk {w : World} {pd bl bm j : Nat} {N : List FileM} {k : Int} (h : AgainAt w pd bl bm N j k) : DBlk w pd bl 256 bm (-1) false k := by
  obtain ⟨lp, D, L, rs, hW, -, hs, -, -, -⟩ := h
  have hb := hW.disk.blk
  rw [hW.live.ops, hW.live.n, hW.live.dead, hW.live.fuse, hs] at hb
  exact hb
theorem AgainAt.more {w w' : World} {pd bl bm j : Nat} {N : List FileM} {k : Int} (h : AgainAt w pd bl bm N j k) (hO : Only [] w w') : AgainAt w' pd bl bm N j k := by
  obtain ⟨lp, D, L, rs, hW, h1⟩ := h
  exact ⟨lp, D, L, rs, hW.more hO, h1⟩

theorem open_again (w : World) (pd bl bm j : Nat) (k : Int) (N : List FileM) (h : AgainAt w pd bl bm N j k) (hN : Kept N) (hp : partsN (setB N).length ≤ 100) (hj : j ≤ 8) :
    Calls Try.prog 10 #[.pointer (some ⟨pd, 0, none⟩)] w fun e w' => ∃ sp lp b D' L' k', e = .returned (.tuple #[.pointer (some ⟨sp, 0, none⟩), .int .i64 0]) ∧ StAt w' sp lp pd bl bm b D' L' [setB N] k' N ∧ AgainAt w' pd bl bm N (j + 1) k' ∧ k < k' ∧ Only [pd, bl, bm] w w' := by
  obtain ⟨lp0, D, L, rs, hW, hr, hs, hg, hk0, hk⟩ := h
  refine (openS_kept w lp0 pd bl bm D L rs k N hW hN hr (by omega) (by omega) (by omega) hk0 (by omega)).mono ?_
  rintro e w' ⟨sp, lp, b, D', L', rfl, hS, hs', hg', hO⟩
  exact ⟨sp, lp, b, D', L', _, rfl, hS, ⟨lp, D', L', _, hS.wl, .inr rfl, by omega, by omega, by omega, by omega⟩, by omega, hO⟩

set_option maxHeartbeats 16000000 in
theorem again_walk4 (a : Option Addr) (len cap : Nat) (l : List FileM) (na : Option Addr) (nl nc : Nat) (ns : List Int) (n : Int) (w : World) (h : FilesArg w a len l) (hn : IntsArg w na nl ns) :
    Calls Try.prog 6 #[.slice a len cap, .slice na nl nc, .int .i64 n] w fun e w' => e = .returned (.bool true) ∧ Only [] w w' := by
  have H := Lib.hid h
  have HN := Lib.hid hn
  clear h hn
  go_enter Try.func6, Try.ntmps6
  go_wp2_with fail
  refine (known4_any _).mono ?_
  rintro e w0 ⟨rfl, hO0⟩
  have HO0 := Lib.hid hO0
  clear hO0
  go_wp2_with fail
  refine (few4_any _ a len cap l (H.out.1.more HO0.out) H.out.2.1 H.out.2.2).mono ?_
  rintro e w' ⟨fb, rfl, rfl, hfew⟩
  cases fb with
  | false =>
    go_wp2
    go_ret
    exact ⟨rfl, HO0.out⟩
  | true =>
    obtain ⟨hl12, hsm⟩ := hfew rfl
    have hlen := H.out.1.1
    have Hsm := Lib.hid hsm
    clear hfew hsm
    go_wp2_with fail
    refine (make4_any _ a len cap l na nl nc ns (H.out.1.more HO0.out) (by omega) (HN.out.1.more HO0.out) HN.out.2 (fun f hf => (Hsm.out f hf).2)).mono ?_
    rintro e w1 ⟨v1, rfl, hv1, hO1⟩
    obtain ⟨hgood, hsmall, hlm⟩ := make_good l ns (min len 8)
    have hl8 : (makeM l ns (min len 8)).length ≤ 8 := by omega
    generalize makeM l ns (min len 8) = M at *
    obtain ⟨a1, c1, rfl, hf1, hb1⟩ := hv1.files
    have Hf1 := Lib.hid hf1
    have HO1 := Lib.hid (HO0.out.plus hO1)
    have Hgood := Lib.hid hgood
    have Hsmall := Lib.hid hsmall
    have Hsort := Lib.hid (sortK_build M hgood.2)
    have hsd : soundM M = true := by simp [soundM, hgood, hl8]
    have HK := Lib.hid (Kept.of hsd)
    have hpn : partsN (setB (buildF M)).length ≤ 100 := by have := (small_set hgood hsmall hl8).1; unfold partsN; omega
    have hs01 := hO1.size
    have hs00 := HO0.out.size
    have hbl8 : (buildF M).length ≤ 100000 := by rw [(build_perm M hgood.2).length_eq]; omega
    have Hlt : Hid (0 < M.length → ∀ x y, a1 = some ⟨x, y, none⟩ → x < w1.heap.size) := Lib.hid (fun hp x y e => by
      obtain ⟨b', o', e', hb', -⟩ := hf1.2 hp
      rw [e] at e'; injection e' with e'; injection e' with e1 e2; omega)
    clear hv1 hf1 hb1 hO1 hgood hsmall hsd
    go_wp2_with fail
    refine (new_even _ 128 (by omega) (by omega)).mono ?_
    rintro e w3 ⟨pd, bl, bm, rfl, hD, hO3, hp1, hp2, hp3⟩
    have HD := Lib.hid hD
    have HO3 := Lib.hid (HO1.out.plus hO3)
    have Hf13 := Lib.hid (Hf1.out.more hO3)
    have hs13 := hO3.size
    clear hD hO3
    go_wp2_with fail
    refine (openS_new _ pd bl bm 128 HD.out (by omega)).mono ?_
    rintro e w4 ⟨sp, lp, b, D, rfl, hS4, hsp, hlp, hb4, hO4⟩
    have Hf14 : Hid (FilesAt w4 a1 M.length M) := Lib.hid (Hf13.out.keep hO4 (fun hp x y e hm => by
      have := Hlt.out hp x y e; simp at hm; omega))
    have HO4 := Lib.hid (HO3.out.trans hO4)
    have HS4 := Lib.hid hS4
    have hs34 := hO4.size
    clear hS4 hO4
    go_wp2_with fail
    refine (commit_fresh _ sp lp pd bl bm b D M a1 _ c1 HS4.out Hf14.out Hgood.out Hsmall.out hl8).mono ?_
    rintro e w5 ⟨rfl, bn, D', L', rs', k', hS5, hbn, ⟨hLs, hk0, hk1, hgn, hrs⟩, hO5⟩
    have Hf15 : Hid (FilesAt w5 a1 M.length M) := Lib.hid (Hf14.out.keep hO5 (fun hp x y e hm => by have := Hlt.out hp x y e; simp at hm; omega))
    have HO5 := Lib.hid (HO4.out.trans hO5)
    have HA5 : Hid (AgainAt w5 pd bl bm (buildF M) 0 k') := Lib.hid ⟨lp, D', L', rs', hS5.wl, hrs, hLs, by omega, hk0, by omega⟩
    have hs45 := hO5.size
    clear hS5 hO5 hbn hrs hgn hLs
    generalize hB : buildF M = N at *
    clear hB
    generalize hMn : M.length = mn at *
    clear hMn
    go_wp2_with fail
    go_loopw [12] (fun i wr => ∃ (j : Nat) (k : Int), j ≤ 8 ∧ i = .int .i64 j ∧ AgainAt wr pd bl bm N j k ∧ FilesAt wr a1 mn M ∧ Only [pd, bl, bm] w5 wr) (fun i _ => 9 - (intOf i).toNat)
    case atStart => exact ⟨0, k', by omega, rfl, HA5.out, Hf15.out, Only.refl _ _⟩
    case round =>
      obtain ⟨j, k, hj, rfl, hA, hF, hO⟩ := hrel
      have HA := Lib.hid hA
      have HF := Lib.hid hF
      have HO := Lib.hid hO
      clear hA hF hO
      go_wp2_with fail
      refine (within4_to _ n 9 (by omega) (by omega)).mono ?_
      rintro e w' ⟨m, rfl, hm9, -, rfl⟩
      by_cases hlt : (j : Int) < (m : Int)
      · go_wp2_with fail
        refine (ops_any _ pd bl 256 bm (-1) false k HA.out.blk).mono ?_
        rintro e w' ⟨rfl, rfl⟩
        go_wp2_with fail
        refine (open_again _ pd bl bm j k N HA.out HK.out hpn hj).mono ?_
        rintro e w6 ⟨sq, lq, bq, D6, L6, k6, rfl, hS6, hA6, hk6, hO6⟩
        have HS6 := Lib.hid hS6
        have HA6 := Lib.hid hA6
        have HF6 : Hid (FilesAt w6 a1 mn M) := Lib.hid (HF.out.keep hO6 (fun hp x y e hm => by have := Hlt.out hp x y e; simp at hm; omega))
        have HO6 : Hid (Only [pd, bl, bm] w5 w6) := Lib.hid ((HO.out.trans hO6).into (fun i hi => .inl (by simp at hi ⊢; omega)))
        clear hS6 hA6 hO6
        go_wp2_with fail
        refine (files_any _ sq lq pd bl bm bq D6 _ _ _ _ HS6.out hbl8).mono ?_
        rintro e w7 ⟨v7, rfl, hv7, hO7⟩
        obtain ⟨a7, c7, rfl, hf7, hb7⟩ := hv7.files
        have Hf7 := Lib.hid hf7
        have HA7 := Lib.hid (HA6.out.more hO7)
        have HF7 := Lib.hid (HF6.out.more hO7)
        have HO7 := Lib.hid (HO6.out.plus hO7)
        clear hv7 hf7 hb7 hO7
        go_wp2_with fail
        refine (sorted_any _ a1 _ c1 M HF7.out (by omega)).mono ?_
        rintro e w8 ⟨v8, rfl, hv8, hO8⟩
        rw [Hsort.out] at hv8
        obtain ⟨a8, c8, rfl, hf8, hb8⟩ := hv8.files
        have Hf8 := Lib.hid hf8
        have Hf78 := Lib.hid (Hf7.out.more hO8)
        have HA8 := Lib.hid (HA7.out.more hO8)
        have HF8 := Lib.hid (HF7.out.more hO8)
        have HO8 := Lib.hid (HO7.out.plus hO8)
        clear hv8 hf8 hb8 hO8
        go_wp2_with fail
        refine (same4_any _ a7 a8 c7 c8 N N Hf78.out Hf8.out (by omega)).mono ?_
        rintro e w9 ⟨rfl, hO9⟩
        rw [decide_eq_true (rfl : N = N)]
        have HA9 := Lib.hid (HA8.out.more hO9)
        have HF9 := Lib.hid (HF8.out.more hO9)
        have HO9 := Lib.hid (HO8.out.plus hO9)
        have hk6' : ¬ k6 ≤ k := by omega
        clear hO9
        go_wp2_with fail
        refine (ops_any _ pd bl 256 bm (-1) false k6 HA9.out.blk).mono ?_
        rintro e w' ⟨rfl, rfl⟩
        go_wp2
        go_roundw
        case rel => exact ⟨j + 1, k6, by omega, by go_num, HA9.out, HF9.out, HO9.out⟩
        case measure => simp [intOf]; omega
      · go_wp2
        go_ret
        refine ⟨rfl, (HO5.out.trans HO.out).into (fun i hi => .inr ?_)⟩
        simp at hi
        omega

end Go.Proofs.Ytkpfplejooplfaa
