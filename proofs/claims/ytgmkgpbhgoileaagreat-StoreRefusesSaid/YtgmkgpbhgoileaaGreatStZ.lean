/-
  slices.AppendSeq onto a row of one's own (the library's contract is for no row alone); the names of any sets (names).
-/
import Derived.Test.YtgmkgpbhgoileaaGreatStV
import Derived.Shelf.SlIter.Collect
namespace Go.Proofs.YtgmkgpbhgoileaaGreat
set_option maxRecDepth 100000
set_option linter.unusedVariables false
open Go.RowKit Go.Sort Go.Maps

theorem clone_any (w : World) (b : Nat) (F : List FileM) (h : SetAt w b F) :
    Calls Tryz.prog 58 #[.map (some b)] w fun e w' => e = .returned (.map (some w.heap.size)) ∧ SetAt w' w.heap.size F ∧ Only [] w w' := by
  refine (AnyW.maps_Clone_owns Tryz.cloneA 9 RF b F.length (setD F) w h).mono ?_
  rintro e w' ⟨rfl, h1, -, hB⟩
  exact ⟨rfl, h1, ⟨hB.os, hB.tape, hB.output, hB.size, fun k hk _ => hB.block k hk⟩⟩

/-- A change that makes a file. -/
def chgB (f : FileM) : List UInt8 := leB 1 1 ++ fileB f
theorem get_own : ∀ {N : List FileM} {f : FileM}, (N.map (·.1)).Nodup → f ∈ N → getS f.1 N = some f
  | [], f, _, h => by cases h
  | g :: r, f, hn, h => by
    rw [List.map_cons, List.nodup_cons] at hn
    unfold getS
    rw [List.find?_cons]
    rcases List.mem_cons.1 h with rfl | h
    · simp
    · have hne : g.1 ≠ f.1 := fun e => hn.1 (List.mem_map.2 ⟨f, h, e.symm⟩)
      have := get_own hn.2 h
      unfold getS at this
      have hbf : (g.1 == f.1) = false := by simpa using hne
      rw [hbf]
      exact this
theorem chgL_none {N : List FileM} (hn : (N.map (·.1)).Nodup) (hne : ∀ f ∈ N, 0 < f.1.length) : chgL [] N (N.map (·.1)) = N.map chgB := by
  have key : ∀ M : List FileM, (∀ f ∈ M, f ∈ N) → (M.map (·.1)).filterMap (chgE [] N) = M.map chgB := by
    intro M
    induction M with
    | nil => simp
    | cons f r ih =>
      intro hM
      have hf := hM f (by simp)
      have hg := get_own hn hf
      have h0 := hne f hf
      have e1 : chgE [] N f.1 = some (chgB f) := by
        have ha : atF f.1 N = f := by unfold atF; rw [hg]; rfl
        have hb : atF f.1 [] = ([], []) := rfl
        have hab : f ≠ ([], []) := fun e => by rw [e] at h0; simp at h0
        unfold chgE
        rw [ha, hb, if_neg hab, hg]
        rfl
      rw [List.map_cons, List.filterMap_cons, e1, ih (fun g hg => hM g (by simp [hg]))]
      rfl
  exact key N (fun f h => h)
theorem changeB_none {N : List FileM} (hn : (N.map (·.1)).Nodup) (hne : ∀ f ∈ N, 0 < f.1.length) : changeB [] N (N.map (·.1)) = leB 1 N.length ++ N.flatMap chgB := by
  unfold changeB
  rw [chgL_none hn hne, List.length_map, List.flatMap_def]
theorem chg_len {F : List FileM} (h : ∀ f ∈ F, f.1.length ≤ 255 ∧ f.2.length ≤ 3000) : (F.flatMap chgB).length ≤ 3301 * F.length := by
  induction F with
  | nil => simp
  | cons f r ih =>
    have h1 := h f (by simp)
    have h2 := ih (fun g hg => h g (by simp [hg]))
    rw [List.flatMap_cons, List.length_append, List.length_cons]
    unfold chgB
    rw [List.length_append, length_leB, length_fileB]
    unfold chgB at h2
    omega
theorem Kept.pos {N : List FileM} (h : Kept N) : ∀ f ∈ N, 0 < f.1.length := fun f hf => by
  have := (h.good.1 f hf).1
  simp only [nameM, Bool.and_eq_true, decide_eq_true_eq] at this
  omega
theorem Kept.take {N : List FileM} (h : Kept N) (j : Nat) : ((N.take j).map (·.1)).Nodup := by
  rw [List.map_take]
  exact h.good.2.sublist (List.take_sublist _ _)

set_option maxHeartbeats 8000000 in
theorem readChange_any (w : World) (m b o cap : Nat) (N : List FileM) (hm : SetAt w m []) (hN : Kept N) (h : Src w (some ⟨b, o, none⟩) (changeB [] N (N.map (·.1))).length (changeB [] N (N.map (·.1)))) (hb : b < w.heap.size) (hc : (changeB [] N (N.map (·.1))).length ≤ cap) :
    Calls Tryz.prog 38 #[.map (some m), .slice (some ⟨b, o, none⟩) (changeB [] N (N.map (·.1))).length cap] w (ReadS w N) := by
  have Hm := Lib.hid hm
  have HN := Lib.hid hN
  have HM := Lib.hid hN.modest
  have hlN := hN.len
  have hcb := changeB_none hN.good.2 hN.pos
  have hbl : (leB 1 N.length ++ N.flatMap chgB).length ≤ 100000 := by
    have h2 := chg_len hN.modest.2
    rw [List.length_append, length_leB]
    omega
  have Hcb : Hid (changeB [] N (N.map (·.1)) = leB 1 N.length ++ N.flatMap chgB) := Lib.hid hcb
  rw [hcb] at h hc ⊢
  have H := Lib.hid h
  clear h hN hm hcb
  generalize hB : leB 1 N.length ++ N.flatMap chgB = B at *
  have HB := Lib.hid hB
  clear hB
  have hOa := Lib.hid ((Only.refl [] w).alloc (.cells #[.slice (some ⟨b, o, none⟩) B.length cap] 110))
  have HR0 : Hid (RdAt (w.alloc (.cells #[.slice (some ⟨b, o, none⟩) B.length cap] 110)) w.heap.size b B) := Lib.hid ⟨o, cap, IsBlk.made w _, H.out.more hOa.out, hc, by omega⟩
  have hml := Hm.out.lt
  go_enter Tryz.func38, Tryz.ntmps38
  go_wp2_with fail
  have hszA : (w.alloc (.cells #[.slice (some ⟨b, o, none⟩) B.length cap] 110)).heap.size = w.heap.size + 1 := by simp
  generalize w.alloc (.cells #[.slice (some ⟨b, o, none⟩) B.length cap] 110) = wA at *
  generalize hq : w.heap.size = q at *
  have Hq := Lib.hid hq
  clear hq
  refine (clone_any _ m [] (Hm.out.more hOa.out)).mono ?_
  rintro e w0 ⟨rfl, hc0, hO0⟩
  have HO0 := Lib.hid hO0
  have HR00 := Lib.hid (HR0.out.keep hO0 (by simp) (by simp))
  have Hc0 := Lib.hid hc0
  have hcl := hc0.lt
  clear hO0 HR0 hc0
  generalize hcc : wA.heap.size = c at *
  have HOw0 := Lib.hid (hOa.out.plus HO0.out)
  have hqc : q < c := by omega
  clear hcc hszA
  go_wp2_with fail
  have e1 := rdnum_any w0 q b (leB 1 N.length) (N.flatMap chgB) (by simp [length_leB]) (by rw [HB.out]; omega) (by rw [HB.out]; exact HR00.out)
  rw [length_leB, numB_leB_lt (by omega)] at e1
  refine e1.mono ?_
  rintro e w1 ⟨rfl, hR1, hO1⟩
  have HR1 := Lib.hid hR1
  have Hc1 := Lib.hid (Hc0.out.keep hO1 (by simp; omega))
  have HO1 : Hid (Only [q, c] w0 w1) := Lib.hid (hO1.into (fun k hk => .inl (by simp at hk ⊢; omega)))
  clear e1 hR1 hO1 Hc0 HR00
  go_wp2_with fail
  go_loopw [16] (fun i wr => ∃ j : Nat, j ≤ N.length ∧ i = .int .i64 j ∧ SetAt wr c (buildF (N.take j)) ∧ RdAt wr q b ((N.drop j).flatMap chgB) ∧ Only [q, c] w0 wr) (fun i _ => N.length - (intOf i).toNat)
  case atStart => exact ⟨0, by omega, rfl, Hc1.out, HR1.out, HO1.out⟩
  case round =>
    obtain ⟨j, hj, rfl, hset, hR, hO⟩ := hrel
    have Hset := Lib.hid hset
    have HR := Lib.hid hR
    have HO := Lib.hid hO
    have hszr := hO.size
    clear hset hR hO
    by_cases hlt : j < N.length
    · have hlti : (j : Int) < (N.length : Int) := by omega
      have Htk : Hid (N.take (j + 1) = N.take j ++ [N[j]]) := Lib.hid (by rw [List.take_add_one, List.getElem?_eq_getElem hlt]; rfl)
      have hm := HM.out.2 N[j] (List.getElem_mem hlt)
      have hdr : (N.drop j).flatMap chgB = leB 1 1 ++ (fileB N[j] ++ (N.drop (j + 1)).flatMap chgB) := by rw [List.drop_eq_getElem_cons hlt, List.flatMap_cons]; unfold chgB; rw [List.append_assoc]
      have hlen2 : (leB 1 1 ++ (fileB N[j] ++ (N.drop (j + 1)).flatMap chgB)).length ≤ 1000000 := by
        rw [← hdr]
        have := chg_len (F := N.drop j) (fun f hf => HM.out.2 f (List.mem_of_mem_drop hf))
        rw [List.length_drop] at this
        omega
      have hlen3 : (fileB N[j] ++ (N.drop (j + 1)).flatMap chgB).length ≤ 1000000 := by rw [List.length_append] at hlen2; omega
      have HRj : Hid (RdAt wr q b (leB 1 1 ++ (fileB N[j] ++ (N.drop (j + 1)).flatMap chgB))) := Lib.hid (by rw [← hdr]; exact HR.out)
      have hbld : (buildF (N.take j)).length < maxLen := by rw [(build_perm _ (HN.out.take j)).length_eq, List.length_take]; unfold maxLen; omega
      clear hdr HR
      generalize N[j] = f at *
      obtain ⟨fn, ft⟩ := f
      simp only at hm
      have e2 := rdnum_any wr q b (leB 1 1) _ (by simp [length_leB]) hlen2 HRj.out
      rw [length_leB, numB_leB_lt (by omega)] at e2
      go_wp2_with fail
      refine e2.mono ?_
      rintro e w2 ⟨rfl, hR2, hO2⟩
      have HO2 : Hid (Only [q, c] w0 w2) := Lib.hid ((HO.out.trans hO2).into (fun k hk => .inl (by simp at hk ⊢; omega)))
      have HR2 := Lib.hid hR2
      have Hset2 := Lib.hid (Hset.out.keep hO2 (by simp; omega))
      have hsz2 := hO2.size
      clear hR2 hO2 Hset e2
      go_wp2_with fail
      refine (rdfile_any _ q b (fn, ft) _ hm.1 hm.2 hlen3 HR2.out (by omega) (by omega)).mono ?_
      rintro e w3 ⟨rfl, hR3, hO3⟩
      unfold fileV encStr
      simp only
      have HO3 : Hid (Only [q, c] w0 w3) := Lib.hid ((HO2.out.trans hO3).into (fun k hk => .inl (by simp at hk ⊢; omega)))
      have HR3 := Lib.hid hR3
      have Hset3 := Lib.hid (Hset2.out.keep hO3 (by simp; omega))
      clear hR3 hO3 Hset2
      have hOa3 := Lib.hid ((Only.refl [] w3).alloc (.cells #[.string ⟨fn.toArray⟩, .string ⟨ft.toArray⟩] 40))
      have hqb := IsBlk.made w3 (.cells #[.string ⟨fn.toArray⟩, .string ⟨ft.toArray⟩] 40)
      have Hq0 : Hid ((w3.alloc (.cells #[.string ⟨fn.toArray⟩, .string ⟨ft.toArray⟩] 40)).cell? ⟨w3.heap.size, 0, none⟩ = some (.string ⟨fn.toArray⟩)) := Lib.hid (hqb.cell 0)
      have Hq1 : Hid ((w3.alloc (.cells #[.string ⟨fn.toArray⟩, .string ⟨ft.toArray⟩] 40)).cell? ⟨w3.heap.size, 1, none⟩ = some (.string ⟨ft.toArray⟩)) := Lib.hid (hqb.cell 1)
      have Hset4 := Lib.hid (Hset3.out.more hOa3.out)
      have HR4 := Lib.hid (HR3.out.keep hOa3.out (by simp) (by simp))
      have HO4 : Hid (Only [q, c] w0 (w3.alloc (.cells #[.string ⟨fn.toArray⟩, .string ⟨ft.toArray⟩] 40))) := Lib.hid ((HO3.out.trans hOa3.out).into (fun k hk => .inl (by simpa using hk)))
      clear hqb hOa3 HR3 HO3 Hset3
      have hfnm : fn.length ≤ maxLen := by unfold maxLen; omega
      go_wp2_with (refine wpList_mapUpdate_own _ rfl _ _ _ _ rfl 9 40 (string_keyed Tryz.underlying9) Tryz.underlying59 RF c _ _ rfl Hset4.out hbld (encStr fn) (fileV (fn, ft)) (.string fn) rfl rfl (key_str hfnm) (fileD (fn, ft)) [] (RF_file _) ?_; intro W5 h5 hg5)
      have hO5 : Only [c] _ W5 := ⟨hg5.os, hg5.tape, hg5.output, hg5.size, fun k hk hm => hg5.block k hk (fun e => by injection e with e; simp at hm; omega)⟩
      have hR5 := HR4.out.keep hO5 (by simp; omega) (by simp; omega)
      have hO6 : Only [q, c] w0 W5 := (HO4.out.trans hO5).into (fun k hk => .inl (by simp at hk ⊢; omega))
      go_roundw
      case rel =>
        refine ⟨j + 1, by omega, by go_num, ?_, hR5, hO6⟩
        rw [Htk.out, build_snoc]
        have := put_setD (fn, ft) (buildF (N.take j))
        simp only at this
        rw [this] at h5
        exact SetAt.tight h5
      case measure => simp [intOf]; omega
    · have hge : ¬ (j : Int) < (N.length : Int) := by omega
      have hset := Hset.out
      rw [List.take_of_length_le (by omega), HN.out.build] at hset
      have HOw : Hid (Only [] w wr) := Lib.hid ((HOw0.out.trans HO.out).into (fun k hk => by simp at hk; have := Hq.out; exact .inr (by omega)))
      have HsN := Lib.hid hset
      clear hset Hset
      go_wp2_with fail
      refine (list_any _ c N HsN.out (by omega)).mono ?_
      rintro e w5 ⟨v5, rfl, hv5, hO5⟩
      obtain ⟨aT, cT, rfl, hfT, hbT⟩ := hv5.files
      have HfT := Lib.hid hfT
      have HO5 := Lib.hid (HOw.out.plus hO5)
      clear hv5 hfT hbT hO5
      go_wp2_with fail
      refine (setOf_any _ aT _ cT N HfT.out (fun f hf => by have := HM.out.2 f hf; unfold maxLen; omega) (by unfold maxLen; omega)).mono ?_
      rintro e w6 ⟨hyes, hno, hO6⟩
      obtain ⟨bn, rfl, hset, hbn⟩ := hyes HN.out.sound
      rw [HN.out.build] at hset
      have HO6 := Lib.hid (HO5.out.plus hO6)
      have Hset := Lib.hid hset
      have hqb : q ≤ bn := by have := HO5.out.size; have := Hq.out; omega
      clear hyes hno hO6 hset
      go_wp2_with fail
      refine (change_any _ bn m [] N (Hm.out.more HO6.out) Hset.out rfl HM.out).mono ?_
      rintro e w7 ⟨v7, rfl, hv7, hO7⟩
      rw [Hcb.out] at hv7
      obtain ⟨a7, c7, rfl, hs7, hn7, -⟩ := OwnB.shape hv7
      have Hs7 := Lib.hid hs7
      have HO7 := Lib.hid (HO6.out.plus hO7)
      have Hset7 := Lib.hid (Hset.out.more hO7)
      clear hv7 hs7 hn7 hO7 Hset
      go_wp2_with fail
      refine (equal_same _ a7 _ _ c7 cap B Hs7.out (H.out.more HO7.out)).mono ?_
      rintro e w' ⟨rfl, rfl⟩
      go_wp2
      go_ret2
      exact ⟨bn, rfl, Hset7.out, by have := Hq.out; omega, HO7.out⟩

end Go.Proofs.YtgmkgpbhgoileaaGreat
namespace Go.Proofs.YtgmkgpbhgoileaaGreat
set_option maxRecDepth 100000
set_option linter.unusedVariables false
open Go.RowKit Go.Maps Go.Sort Go.Shelf
section
variable {P : Program} {ρ : Ren}

/-- What is no cell of the row's type stays where the row grows. -/
theorem stays {W V : World} {base e k : Nat} {v : Value} {xs : List Value} (hr : W.ownsRow base e 1 v k xs) {o' : Obj} (hg : (W.alloc o').grownBy V v.ownBlock) {j : Nat} {o : Obj} (hj : W.heap[j]? = some o) (hno : ∀ cur, o ≠ .cells cur e (0, 0)) : V.heap[j]? = some o := by
  have hlt := (Array.getElem?_eq_some_iff.1 hj).1
  refine (hg.block j (by simp; omega) (fun e' => ?_)).trans ((Below.heap_alloc _ _ j hlt).trans hj)
  rcases ownsRow_ne_a hr hj hno with h | h
  · rw [h] at e'; cases e'
  · exact h e'.symm

/-- The loop over a sequence, where the row was s at the entering. -/
def seqLoop (ρ : Ren) (fn : FuncId) (s f : Value) (B D : Nat) (st : LoopState) : Loop :=
  ⟨st, none, fn, #[s, f, .pointer (some ⟨B, 0, none⟩), undef, .slice none 0 0, undef, f, undef, undef, undef, undef, undef, undef], #[7], AnyZ.apAssign ρ, AnyZ.apBody ρ, D⟩

/-- Between two rounds: the box B holds a row of one's own: old, and what has come. -/
structure Coming (ρ : Ren) (base : Nat) (w : World) (fn : FuncId) (s f : Value) (old : List (List UInt8)) (B l D : Nat) (new : List (List UInt8)) (W : World) : Prop where
  box : ∃ v, W.heap[B]? = some (.cells #[v] (ρ.t 24) (0, 0)) ∧ W.ownsRow base (ρ.t 26) 1 v (old ++ new).length ((old ++ new).map encStr)
  loop : W.heap[l]? = some (.loop (seqLoop ρ fn s f B D .ready))
  late : W.heap[D]? = some (.deferred (some []))
  below : Below base w W

theorem coming_abides {base : Nat} {w : World} {fn : FuncId} {s f : Value} {old : List (List UInt8)} {B l D b : Nat} (hb : base ≤ b) (hw : base ≤ w.heap.size) : AbidesFrom b (Coming ρ base w fn s f old B l D) := by
  intro new W V row h hg hrow
  have hk : ∀ r, row = some r → ∃ o : Obj, W.heap[r]? = some o ∧ o.isWalk = true := fun r e => (hrow r e).2
  obtain ⟨v, h1, h2⟩ := h.box
  refine ⟨⟨v, (grownBy_keeps hg hk h1 rfl).trans h1, ownsRow_abides_a h2 hg hk⟩, (grownBy_keeps hg hk h.loop rfl).trans h.loop, (grownBy_keeps hg hk h.late rfl).trans h.late, ?_⟩
  exact h.below.grown hg (Nat.le_trans hw h.below.size) (fun k e => Nat.le_trans hb (hrow k e).1)

set_option maxHeartbeats 4000000 in
/-- One round: what has come is appended. -/
theorem coming_round (Y : SlLaysZ.n11 P ρ) (F : Fence) (m base : Nat) (w : World) (hw : base ≤ w.heap.size) (fn : FuncId) (hfn : F.fn fn) (a : Option Addr) (n c : Nat) (f : Value) (old : List (List UInt8)) (B l D : Nat) (n1 : B ≠ l) (n2 : D ≠ l) (n3 : D ≠ B) (hB : base ≤ B) (hl : base ≤ l)
    (N : Nat) (hN : old.length + N ≤ 1000000) (new : List (List UInt8)) (x : List UInt8) (W : World) (h : Coming ρ base w fn (.slice a n c) f old B l D new W) (hlen : new.length < N) :
    YieldAt F m P l #[encStr x] W fun e V => e = .returned (.bool true) ∧ Coming ρ base w fn (.slice a n c) f old B l D (new ++ [x]) V ∧ KeepsWalks W V := by
  have mixed := Y.mixed; have t0 := Y.t0; have a0 := Y.a0; have z0 := Y.z0; have v0 := Y.v0; have t24 := Y.t24; have a24 := Y.a24; have z24 := Y.z24; have v24 := Y.v24; have t26 := Y.t26; have a26 := Y.a26; have z26 := Y.z26; have v26 := Y.v26; have t28 := Y.t28; have a28 := Y.a28; have z28 := Y.z28; have v28 := Y.v28
  have u0 := run_underlying Y.t0; have u24 := run_underlying Y.t24; have u26 := run_underlying Y.t26; have u28 := run_underlying Y.t28
  have hty : ρ.t 24 ≠ ρ.t 26 := fun e => by have q := Y.t24; rw [e, Y.t26] at q; cases q
  obtain ⟨i0, hi, hz0, hz1, hz2⟩ := info_parts Y.i26
  obtain ⟨v, hv, hrow⟩ := h.box
  have hsum : old ++ (new ++ [x]) = (old ++ new) ++ [x] := by rw [List.append_assoc]
  have hlt : (old ++ new).length < 1000000 := by rw [List.length_append]; omega
  have hmx : (old ++ new).length + 1 ≤ maxLen := by unfold maxLen; omega
  have hW : base ≤ W.heap.size := Nat.le_trans hw h.below.size
  have hlW : l < W.heap.size := (Array.getElem?_eq_some_iff.1 h.loop).1
  generalize old ++ new = all at *
  refine ⟨fn, #[.slice a n c, f, .pointer (some ⟨B, 0, none⟩), undef, .slice none 0 0, undef, f, encStr x, undef, undef, undef, undef, undef], AnyZ.apAssign ρ, AnyZ.apBody ρ, by simpa [seqLoop] using run_yield (P := P) (args := #[encStr x]) h.loop rfl, roundIn_of_wpIn hfn ?_⟩
  have hbr := run_beginRound (P := P) h.loop rfl
  -- the world in which the loop is busy
  obtain ⟨U, eU⟩ : ∃ U, W.putObj l (.loop { seqLoop ρ fn (.slice a n c) f B D .ready with state := .busy }) = U := ⟨_, rfl⟩
  rw [eU] at hbr
  have gU : W.grownBy U (some l) := eU ▸ grownBy_putObj_a _ _ _
  have kU : KeepsWalks W U := eU ▸ KeepsWalks.putObj _ h.loop rfl
  have lU : U.heap[l]? = some (.loop (seqLoop ρ fn (.slice a n c) f B D .busy)) := eU ▸ World.putObj_heap_same hlW
  have bU : U.heap[B]? = some (.cells #[v] (ρ.t 24) (0, 0)) := eU ▸ (World.putObj_heap_other n1).trans hv
  have dU : U.heap[D]? = some (.deferred (some [])) := eU ▸ (World.putObj_heap_other n2).trans h.late
  clear eU
  have rU := hrow.kept gU (ownsRow_ne_a hrow h.loop (fun cur e => by cases e))
  have sU : Below base w U := h.below.grown gU hW (fun k e => by cases e; exact hl)
  have hU : base ≤ U.heap.size := Nat.le_trans hw sU.size
  obtain ⟨cU, fU⟩ := cell_of_box_a bU
  unfold AnyZ.apAssign
  gi_wp2_with gi_round_op_a
  refine ⟨U, hbr, ?_⟩
  unfold AnyZ.apBody
  gi_wp2_with (first
    | (gi_at_builtin; refine wpListIn_append_own _ rfl _ _ (ρ.t 24) rfl base (ρ.t 26) i0 (.string ⟨#[]⟩) 1 16 Y.t24 hi hz0 hz1 hz2 rfl (by decide) _ _ _ rfl (rU.alloc _) ⟨U.heap.size, 0, none⟩ 1 1 [encStr x] rfl rfl (cell_one_new _ _ _) (by simp [Value.oneCell', encStr]) (by omega) (by omega) (by simp; omega) ?_; intro v' V hown hgV _
       have bV := stays rU hgV bU (fun cur e => hty (Obj.cells.inj e).2.1)
       obtain ⟨cV, fV⟩ := cell_of_box_a bV
       obtain ⟨g, cap, cur, rfl, r0, r1, r2, r3, r4, r5⟩ : ∃ g cap cur, v' = .slice (some ⟨g, 0, none⟩) (all.length + 1) cap ∧ base ≤ g ∧ V.heap[g]? = some (.cells cur (ρ.t 26) (0, 0)) ∧ all.length + 1 ≤ cap ∧ cap ≤ maxLen ∧ cur.size = cap * 1 ∧ cur.toList.take ((all.length + 1) * 1) = all.map encStr ++ [encStr x] := by
         rcases hown.2 with ⟨_, e0⟩ | e1
         · omega
         · exact e1
       go_frame)
    | gi_round_op_a)
  have gV : (U.alloc (.cells #[encStr x] (ρ.t 26))).grownBy V v.ownBlock := hgV
  have lV := stays rU gV lU (fun cur e => by cases e)
  have dV := stays rU gV dU (fun cur e => by cases e)
  have sV : Below base w V := (sU.alloc hU _).grown gV (by simp; omega) (fun k e => (rU.lt k e).1)
  have gX := grownBy_setCell0_a V B (.slice (some ⟨g, 0, none⟩) (all.length + 1) cap)
  have bX := heap_setCell_box_a (.slice (some ⟨g, 0, none⟩) (all.length + 1) cap) bV
  have kX : KeepsWalks W (V.setCell ⟨B, 0, none⟩ (.slice (some ⟨g, 0, none⟩) (all.length + 1) cap)) := ((kU.trans (KeepsWalks.alloc _ _)).trans (KeepsWalks.of_grownBy gV (ownsRow_not_walk_a (rU.alloc _)))).trans (KeepsWalks.setCell _ _ _)
  generalize V.setCell ⟨B, 0, none⟩ (.slice (some ⟨g, 0, none⟩) (all.length + 1) cap) = X at *
  have lX : X.heap[l]? = some (.loop (seqLoop ρ fn (.slice a n c) f B D .busy)) := (gX.block l (Array.getElem?_eq_some_iff.1 lV).1 (fun e => n1 (by cases e; rfl))).trans lV
  have dX : X.heap[D]? = some (.deferred (some [])) := (gX.block D (Array.getElem?_eq_some_iff.1 dV).1 (fun e => n3 (by cases e; rfl))).trans dV
  have rX := hown.kept gX (ownsRow_ne_a hown bV (fun cur e => hty (Obj.cells.inj e).2.1))
  have sX : Below base w X := sV.grown gX (Nat.le_trans hw sV.size) (fun k e => by cases e; exact hB)
  have rZ := rX.kept (grownBy_putObj_a X l (.loop (seqLoop ρ fn (.slice a n c) f B D .ready))) (ownsRow_ne_a rX lX (fun cur e => by cases e))
  refine ⟨_, _, run_endRound none lX, rfl, ⟨⟨_, (World.putObj_heap_other n1).trans bX, ?_⟩, World.putObj_heap_same (Array.getElem?_eq_some_iff.1 lX).1, (World.putObj_heap_other n2).trans dX, sX.grown (grownBy_putObj_a _ _ _) (Nat.le_trans hw sX.size) (fun k e => by cases e; exact hl)⟩, kX.trans (KeepsWalks.putObj _ lX rfl)⟩
  rw [hsum, List.length_append, List.map_append]
  exact rZ

set_option maxHeartbeats 4000000 in
/-- AppendSeq of a row of one's own and of whatever a sequence gives. -/
theorem appendSeq_more (Y : SlLaysZ.n11 P ρ) (F : Fence) (n : Nat) (h11 : F.fn (ρ.f 11)) (hro : F.round = none) (hn : 2 ≤ n) (g : Nat) (lb : Array Value) (hFg : F.fn g) (eg : ∀ args w, (callFunc g args).run P w = .ok (.enter g args) w)
    (S : List (List UInt8) → Prop) (N : Nat) (old : List (List UInt8)) (hN : old.length + N ≤ 1000000) (w : World) (base : Nat) (hw : base ≤ w.heap.size) (a : Option Addr) (k c : Nat) (hown : w.ownsRow base (ρ.t 26) 1 (.slice a k c) old.length (old.map encStr)) (hseq : SeqGives F (n - 1) P g lb encStr S N w) :
    CallsIn F n P (ρ.f 11) #[.slice a k c, .func (.func g) #[] lb] w fun e V => ∃ (v : Value) (new : List (List UInt8)), e = .returned v ∧ S new ∧ V.ownsRow base (ρ.t 26) 1 v (old ++ new).length ((old ++ new).map encStr) ∧ Below base w V := by
  have mixed := Y.mixed; have t0 := Y.t0; have a0 := Y.a0; have z0 := Y.z0; have v0 := Y.v0; have t24 := Y.t24; have a24 := Y.a24; have z24 := Y.z24; have v24 := Y.v24; have t26 := Y.t26; have a26 := Y.a26; have z26 := Y.z26; have v26 := Y.v26; have t28 := Y.t28; have a28 := Y.a28; have z28 := Y.z28; have v28 := Y.v28
  have u0 := run_underlying Y.t0; have u24 := run_underlying Y.t24; have u26 := run_underlying Y.t26; have u28 := run_underlying Y.t28
  have hty : ρ.t 24 ≠ ρ.t 26 := fun e => by have q := Y.t24; rw [e, Y.t26] at q; cases q
  obtain ⟨_, _, hbody⟩ := Y.f11
  refine callsIn_of_wp_marks hbody rfl h11 ?_ hro
  simp only [SlBodyZ.n11_ntmps ρ, List.size_toArray, List.length_cons, List.length_nil, Nat.reduceAdd, Nat.reduceSub, Array.replicate_succ, Array.replicate_zero, List.push_toArray, List.append_toArray, List.nil_append, List.cons_append]
  gi_wp2
  refine wpIn_rangeFunc ?_
  intro fn hfn
  rw [hro]
  -- the box, then what is put off, then the loop
  have b0 : (w.alloc (.cells #[.slice a k c] (ρ.t 24))).heap[w.heap.size]? = some (.cells #[.slice a k c] (ρ.t 24) (0, 0)) := World.alloc_heap_new w _
  have s0 : Below w.heap.size w (w.alloc (.cells #[.slice a k c] (ρ.t 24))) := (Below.refl _ w).alloc (Nat.le_refl _) _
  have o0 := hown.alloc (.cells #[.slice a k c] (ρ.t 24))
  have z0 : (w.alloc (.cells #[.slice a k c] (ρ.t 24))).heap.size = w.heap.size + 1 := by simp
  generalize w.alloc (.cells #[.slice a k c] (ρ.t 24)) = U at *
  have lV := World.alloc_heap_new (U.alloc (.deferred (some []))) (.loop (seqLoop ρ fn (.slice a k c) (.func (.func g) #[] lb) w.heap.size U.heap.size .ready))
  rw [World.size_alloc] at lV
  have dV : ((U.alloc (.deferred (some []))).alloc (.loop (seqLoop ρ fn (.slice a k c) (.func (.func g) #[] lb) w.heap.size U.heap.size .ready))).heap[U.heap.size]? = some (.deferred (some [])) := (Below.heap_alloc _ _ _ (by simp)).trans (World.alloc_heap_new U _)
  have bV : ((U.alloc (.deferred (some []))).alloc (.loop (seqLoop ρ fn (.slice a k c) (.func (.func g) #[] lb) w.heap.size U.heap.size .ready))).heap[w.heap.size]? = some (.cells #[.slice a k c] (ρ.t 24) (0, 0)) := (Below.heap_alloc _ _ _ (by simp; omega)).trans ((Below.heap_alloc _ _ _ (by omega)).trans b0)
  have sV : Below w.heap.size w ((U.alloc (.deferred (some []))).alloc (.loop (seqLoop ρ fn (.slice a k c) (.func (.func g) #[] lb) w.heap.size U.heap.size .ready))) := (s0.alloc s0.size _).alloc (by have := s0.size; simp; omega) _
  have oV := (o0.alloc (.deferred (some []))).alloc (.loop (seqLoop ρ fn (.slice a k c) (.func (.func g) #[] lb) w.heap.size U.heap.size .ready))
  have eV := run_enterLoop_outer (P := P) (w := U) fn #[.slice a k c, .func (.func g) #[] lb, .pointer (some ⟨w.heap.size, 0, none⟩), undef, .slice none 0 0, undef, .func (.func g) #[] lb, undef, undef, undef, undef, undef, undef] #[7] (AnyZ.apAssign ρ) (AnyZ.apBody ρ)
  change _ = Result.ok _ ((U.alloc (.deferred (some []))).alloc (.loop (seqLoop ρ fn (.slice a k c) (.func (.func g) #[] lb) w.heap.size U.heap.size .ready))) at eV
  generalize (U.alloc (.deferred (some []))).alloc (.loop (seqLoop ρ fn (.slice a k c) (.func (.func g) #[] lb) w.heap.size U.heap.size .ready)) = V at *
  have tV : Below base w V := ⟨sV.os, sV.tape, sV.output, sV.size, fun j hj => sV.block j (by omega)⟩
  have hstart : Coming ρ base w fn (.slice a k c) (.func (.func g) #[] lb) old w.heap.size (U.heap.size + 1) U.heap.size [] V := ⟨⟨_, bV, by rw [List.append_nil]; exact oV⟩, lV, dV, tV⟩
  refine ⟨U.heap.size + 1, [⟨.collected U.heap.size, #[]⟩], V, ⟨.fn (.func g) lb, #[.func (.yield (U.heap.size + 1)) #[] #[]]⟩, V, g, #[.func (.yield (U.heap.size + 1)) #[] #[]] ++ lb, V, eV, ?_, ?_, ?_, fun _ => by omega, ?_⟩
  · simp [resolve, go_sem]
  · intro f' hf'; simp [Target.leads] at hf'; subst hf'; exact hFg
  · simp [invoke, go_sem, eg]
  refine (hseq (U.heap.size + 1) _ V sV (coming_abides (Nat.le_trans hw sV.size) hw) (fun pre x W hJ hl => coming_round { Y with } F (n - 1 - 1) base w hw fn hfn a k c _ old w.heap.size (U.heap.size + 1) U.heap.size (by omega) (by omega) (by omega) hw (by omega) N hN pre x W hJ hl) hstart).mono ?_
  rintro e W ⟨⟨v0, rfl⟩, new, hS, hW⟩
  obtain ⟨v, hv, hrow⟩ := hW.box
  have hend := run_endLoop (P := P) hW.loop (by simp [seqLoop])
  have gX := grownBy_putObj_a W (U.heap.size + 1) (.loop (seqLoop ρ fn (.slice a k c) (.func (.func g) #[] lb) w.heap.size U.heap.size .exhausted))
  have bX : (W.putObj (U.heap.size + 1) (.loop (seqLoop ρ fn (.slice a k c) (.func (.func g) #[] lb) w.heap.size U.heap.size .exhausted))).heap[w.heap.size]? = some (.cells #[v] (ρ.t 24) (0, 0)) := (World.putObj_heap_other (by omega)).trans hv
  have dX : (W.putObj (U.heap.size + 1) (.loop (seqLoop ρ fn (.slice a k c) (.func (.func g) #[] lb) w.heap.size U.heap.size .exhausted))).heap[U.heap.size]? = some (.deferred (some [])) := (World.putObj_heap_other (by omega)).trans hW.late
  have rX := hrow.kept gX (ownsRow_ne_a hrow hW.loop (fun cur e => by cases e))
  have sX := hW.below.grown gX (Nat.le_trans hw hW.below.size) (fun k e => by cases e; omega)
  change _ = Result.ok _ (W.putObj (U.heap.size + 1) (.loop (seqLoop ρ fn (.slice a k c) (.func (.func g) #[] lb) w.heap.size U.heap.size .exhausted))) at hend
  generalize W.putObj (U.heap.size + 1) (.loop (seqLoop ρ fn (.slice a k c) (.func (.func g) #[] lb) w.heap.size U.heap.size .exhausted)) = X at *
  obtain ⟨cX, fX⟩ := cell_of_box_a bX
  refine ⟨none, X, hend, ?_⟩
  gi_wp2
  rw [← z0]
  refine ⟨by simp, .inl ⟨_, _, rfl, run_takeDeferred dX, _, results_tmp rfl _ _ _, v, new, rfl, hS, rX.kept (grownBy_putObj_a _ _ _) (ownsRow_ne_a rX dX (fun cur e => by cases e)), sX.grown (grownBy_putObj_a _ _ _) (Nat.le_trans hw sX.size) (fun k e => by cases e; omega)⟩⟩
end

/-- AppendSeq of a row of one's own and of a set's names. -/
theorem appseq_any (w : World) (b q base : Nat) (F : List FileM) (old : List (List UInt8)) (a : Option Addr) (k c : Nat) (h : SetAt w b F) (hF : F.length ≤ 1000) (ho : old.length ≤ 10000) (hb : base ≤ w.heap.size) (hown : OwnS w base (.slice a k c) old) (hq : q < w.heap.size) (hc : w.cell? ⟨q, 0, none⟩ = some (.map (some b))) :
    Calls Tryz.prog 71 #[.slice a k c, .func (.func 84) #[] #[.pointer (some ⟨q, 0, none⟩)]] w
      fun e w' => ∃ v new, e = .returned v ∧ new.Perm (F.map (·.1)) ∧ OwnS w' base v (old ++ new) ∧ (∀ w0, Only [] w0 w → w0.heap.size ≤ base → Only [] w0 w') := by
  have hsz : Maps.size (setD F) = F.length := by simp [setD, Maps.size]
  have hseq : SeqGives Fence.wide 5 Tryz.prog 84 #[.pointer (some ⟨q, 0, none⟩)] encStr (fun ss => ss.Perm (strKeys (setD F))) (Maps.size (setD F)) w :=
    AnyZ.keys_gives (ρ := Tryz.keysA_ren) { Tryz.keysA with } Fence.wide _ trivial rfl (by omega) q b F.length (setD F) w hq hc h
  have hk : strKeys (setD F) = F.map (·.1) := by simp [strKeys, setD, entD, strOf]
  refine ((callsIn_wide (n := 6)).1 (appendSeq_more Tryz.appA Fence.wide 6 trivial rfl (by omega) 84 #[.pointer (some ⟨q, 0, none⟩)] trivial (enters_of Tryz.func84 (by kernel_rfl) rfl) _ _ old (by rw [hsz]; omega) w base hb a k c hown hseq)).mono ?_
  rintro e w' ⟨v, new, rfl, hS, hrow, hB⟩
  exact ⟨v, new, rfl, by rw [← hk]; exact hS, hrow, fun w0 hO h0 => ⟨hB.os.trans hO.os, hB.tape.trans hO.tape, hB.output.trans hO.output, Nat.le_trans hO.size hB.size, fun j hj hm => (hB.block j (by omega)).trans (hO.block j hj hm)⟩⟩

end Go.Proofs.YtgmkgpbhgoileaaGreat
