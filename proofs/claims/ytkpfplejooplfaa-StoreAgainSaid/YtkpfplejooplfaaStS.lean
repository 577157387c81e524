/-
  The walk of the law StoreOrder: it returns true, whatever its arguments are, and turns nothing that was there.
-/
import Derived.Test.YtkpfplejooplfaaStR
namespace Go.Proofs.Ytkpfplejooplfaa
set_option maxRecDepth 100000
set_option linter.unusedVariables false
open Go.RowKit Go.Sort Go.Maps

theorem rise_ins {f : FileM} : ∀ {F : List FileM}, Rise F → f.1 ∉ F.map (·.1) → Rise (insS f F)
  | [], _, _ => List.pairwise_cons.2 ⟨by simp, List.Pairwise.nil⟩
  | g :: r, h, hn => by
    have h' := List.pairwise_cons.1 h
    simp only [List.map_cons, List.mem_cons, not_or] at hn
    unfold insS
    split
    · rename_i hb
      refine List.pairwise_cons.2 ⟨fun x hx => ?_, h⟩
      rcases List.mem_cons.1 hx with rfl | hx
      · exact hb
      · rw [before_eq, decide_eq_true_eq]
        exact List.lt_trans (before_lt hb) (before_lt (h'.1 x hx))
    · rename_i hb
      refine List.pairwise_cons.2 ⟨fun x hx => ?_, rise_ins h'.2 hn.2⟩
      have hx' := (ins_perm f r).mem_iff.1 hx
      rcases List.mem_cons.1 hx' with rfl | hx'
      · rw [before_eq, decide_eq_true_eq]
        rw [before_eq, decide_eq_true_eq] at hb
        exact Classical.byContradiction (fun h3 => hn.1 (List.le_antisymm (List.not_lt.1 h3) (List.not_lt.1 hb)))
      · exact h'.1 x hx'
theorem rise_build : ∀ l : List FileM, (l.map (·.1)).Nodup → Rise (buildF l) := by
  refine snoc_cases (fun _ => List.Pairwise.nil) (fun l f ih h => ?_)
  rw [build_snoc]
  rw [List.map_append, List.nodup_append] at h
  have hn : f.1 ∉ (buildF l).map (·.1) := fun hm => by
    have := ((build_perm l h.1).map (·.1)).mem_iff.1 hm
    exact h.2.2 _ this f.1 (by simp) rfl
  unfold putS
  rw [del_none_S hn]
  exact rise_ins (ih h.1) hn
theorem build_congr {l m : List FileM} (h : l.Perm m) (hn : (m.map (·.1)).Nodup) : buildF l = buildF m := by
  have hl : (l.map (·.1)).Nodup := (h.map (·.1)).nodup_iff.2 hn
  have p := (build_perm l hl).trans (h.trans (build_perm m hn).symm)
  exact sub_eq _ _ (rise_build l hl) (rise_build m hn) (fun x hx => p.mem_iff.1 hx) p.length_eq

/-- Files turned. -/
def turnM (M : List FileM) (m : Nat) : List FileM := M.drop m ++ M.take m
theorem turn_perm (M : List FileM) (m : Nat) : (turnM M m).Perm M := by
  unfold turnM
  refine List.perm_append_comm.trans ?_
  rw [List.take_append_drop]
theorem turn_get {M : List FileM} {m j : Nat} (hm : m < M.length) (hj : j < M.length) : (turnM M m)[j]? = M[(j + m) % M.length]? := by
  unfold turnM
  by_cases h : j + m < M.length
  · rw [Nat.mod_eq_of_lt h, List.getElem?_append_left (by rw [List.length_drop]; omega), List.getElem?_drop, Nat.add_comm]
  · have e : (j + m) % M.length = j + m - M.length := by
      rw [Nat.mod_eq_sub_mod (by omega), Nat.mod_eq_of_lt (by omega)]
    rw [e, List.getElem?_append_right (by rw [List.length_drop]; omega), List.length_drop, List.getElem?_take_of_lt (by omega)]
    congr 1
    omega

theorem few1_none (w : World) : Calls Try.prog 18 #[.slice none 0 0] w fun e w' => e = .returned (.bool true) ∧ w = w' := by
  go_enter Try.func18, Try.ntmps18
  go_wp2_with fail
  go_loop [3] (fun i => i = .int .i64 0) (fun i => 0)
  case atStart => rfl
  case round =>
    subst hrel
    go_wp2
    go_ret
    exact ⟨rfl, rfl⟩

set_option maxHeartbeats 8000000 in
/-- A commit of the files that are there already. -/
theorem commit_same (w : World) (sp lp pd bl bm b : Nat) (D : DS) (L : LS) (rs : List (List UInt8)) (k : Int) (l : List FileM) (a : Option Addr) (len cap : Nat) (h : StAt w sp lp pd bl bm b D L rs k (buildF l)) (hl : FilesAt w a len l) (hm : ∀ f ∈ l, f.1.length ≤ maxLen ∧ f.2.length ≤ maxLen) (hlen : len ≤ maxLen)
    (hs : soundM l = true) (hp : partsN (setB (buildF l)).length ≤ 255) (hfit : partsN (setB (buildF l)).length ≤ L.size) :
    Calls Try.prog 11 #[.pointer (some ⟨sp, 0, none⟩), .slice a len cap] w fun e w' => e = .returned (.int .i64 0) ∧ StAt w' sp lp pd bl bm b D L rs k (buildF l) ∧ Only [] w w' := by
  have H := Lib.hid h
  have Hl := Lib.hid hl
  have Hm := Lib.hid hm
  clear h hl hm
  go_enter Try.func11, Try.ntmps11
  go_wp2_with fail
  refine (setOf_any _ a len cap l Hl.out Hm.out hlen).mono ?_
  rintro e w1 ⟨hyes, hno, hO1⟩
  have HO1 := Lib.hid hO1
  obtain ⟨bn, rfl, hset, hbn⟩ := hyes hs
  have HM := Lib.hid (sound_modest hs)
  have Hset := Lib.hid hset
  clear hyes hno hO1 hs hset
  generalize hN : buildF l = N at *
  have HN := Lib.hid hN
  clear hN
  go_wp2_with fail
  refine (whole_any _ bn N Hset.out HM.out).mono ?_
  rintro e w2 ⟨v2, rfl, hv2, hO2⟩
  obtain ⟨a2, c2, rfl, hs2, hn2, -⟩ := OwnB.shape hv2
  have Hs2 := Lib.hid hs2
  have HO2 := Lib.hid (HO1.out.plus hO2)
  have Hset2 := Lib.hid (Hset.out.more hO2)
  have H2 := Lib.hid (H.out.more HO2.out)
  have c0 := H2.out.c0
  have c1 := H2.out.c1
  clear hv2 hs2 hn2 hO2 Hset
  go_wp2_with fail
  refine (fits_any _ lp pd L a2 c2 (setB N) H2.out.wl.log Hs2.out hp).mono ?_
  rintro e w3 ⟨rfl, hO3⟩
  have HO3 := Lib.hid (HO2.out.plus hO3)
  have Hset3 := Lib.hid (Hset2.out.more hO3)
  have H3 := Lib.hid (H2.out.more hO3)
  have d0 := H3.out.c0
  have d1 := H3.out.c1
  clear hO3 c0 c1 Hs2 HO2 Hset2 H2
  rw [decide_eq_true hfit]
  go_wp2_with fail
  refine (sameSet_any _ b bn N N H3.out.set Hset3.out).mono ?_
  rintro e w4 ⟨rfl, hO4⟩
  have HO4 := Lib.hid (HO3.out.plus hO4)
  have H4 := Lib.hid (H3.out.more hO4)
  clear hO4 d0 d1 HO3 Hset3 H3
  rw [decide_eq_true (rfl : N = N)]
  go_wp2
  go_ret
  exact ⟨rfl, by rw [HN.out]; exact H4.out, HO4.out⟩

set_option maxHeartbeats 16000000 in
theorem order_walk (a : Option Addr) (len cap : Nat) (l : List FileM) (na : Option Addr) (nl nc : Nat) (ns : List Int) (by_ : Int) (w : World) (h : FilesArg w a len l) (hn : IntsArg w na nl ns) :
    Calls Try.prog 4 #[.slice a len cap, .slice na nl nc, .int .i64 by_] w fun e w' => e = .returned (.bool true) ∧ Only [] w w' := by
  have H := Lib.hid h
  have HN := Lib.hid hn
  clear h hn
  go_enter Try.func4, Try.ntmps4
  go_wp2_with fail
  refine (known4_any _).mono ?_
  rintro e w0 ⟨rfl, hO0⟩
  have HO0 := Lib.hid hO0
  clear hO0
  go_wp2_with fail
  refine (few4_any _ a len cap l (H.out.1.more HO0.out) H.out.2.1 H.out.2.2).mono ?_
  rintro e w' ⟨fb, rfl, rfl, hfew⟩
  cases fb with
  | false =>
    go_wp2
    go_ret
    exact ⟨rfl, HO0.out⟩
  | true =>
    obtain ⟨hl12, hsm⟩ := hfew rfl
    have hlen := H.out.1.1
    have Hsm := Lib.hid hsm
    clear hfew hsm
    go_wp2_with fail
    refine (make4_any _ a len cap l na nl nc ns (H.out.1.more HO0.out) (by omega) (HN.out.1.more HO0.out) HN.out.2 (fun f hf => (Hsm.out f hf).2)).mono ?_
    rintro e w1 ⟨v1, rfl, hv1, hO1⟩
    obtain ⟨hgood, hsmall, hlm⟩ := make_good l ns (min len 8)
    have hl8 : (makeM l ns (min len 8)).length ≤ 8 := by omega
    generalize makeM l ns (min len 8) = M at *
    obtain ⟨a1, c1, rfl, hf1, hb1⟩ := hv1.files
    have Hf1 := Lib.hid hf1
    have HO1 := Lib.hid (HO0.out.plus hO1)
    have Hgood := Lib.hid hgood
    have Hsmall := Lib.hid hsmall
    have Hsort := Lib.hid (sortK_build M hgood.2)
    have hs01 := hO1.size
    have hs00 := HO0.out.size
    clear hv1 hf1 hb1 hO1 hgood hsmall
    obtain ⟨m, hmn⟩ : ∃ m : Nat, 0 < M.length → by_ % (M.length : Int) = (m : Int) ∧ m < M.length := by
      refine ⟨(by_ % (M.length : Int)).toNat, fun hp => ?_⟩
      have h0 := Int.emod_nonneg by_ (show (M.length : Int) ≠ 0 by omega)
      have h1 := Int.emod_lt_of_pos by_ (show (0 : Int) < (M.length : Int) by omega)
      omega
    have Hmn := Lib.hid hmn
    clear hmn
    have Htl : Hid ((turnM M m).length = M.length) := Lib.hid (turn_perm M m).length_eq
    go_wp2_with fail
    go_loopw [9, 8] (fun i s8 wr => ∃ j : Nat, j ≤ M.length ∧ i = .int .i64 j ∧ OwnF wr w1.heap.size s8 ((turnM M m).take j) ∧ Only [] w1 wr) (fun i _ _ => M.length - (intOf i).toNat)
    case atStart => exact ⟨0, by omega, rfl, ⟨rfl, .inl ⟨rfl, rfl⟩⟩, Only.refl _ _⟩
    case round =>
      obtain ⟨j, hj, rfl, hown, hO⟩ := hrel
      have Hown := Lib.hid hown
      have HO := Lib.hid hO
      clear hown hO
      by_cases hlt : j < M.length
      · have hlti : (j : Int) < (M.length : Int) := by omega
        obtain ⟨hmod, hml⟩ := Hmn.out (by omega)
        have hgt := turn_get hml hlt
        have hid : (j + m) % M.length < M.length := Nat.mod_lt _ (by omega)
        obtain ⟨b1, o1, rfl, hb1, hc1⟩ := (Hf1.out.more HO.out).2 (by omega)
        obtain ⟨c0', c1'⟩ := hc1 _ _ (List.getElem?_eq_getElem hid)
        have Htk : Hid ((turnM M m).take (j + 1) = (turnM M m).take j ++ [M[(j + m) % M.length]]) := Lib.hid (by rw [List.take_add_one, hgt, List.getElem?_eq_getElem hid]; rfl)
        have htm : ((j : Int) + (m : Int)).tmod (M.length : Int) = (((j + m) % M.length : Nat) : Int) := by
          rw [Int.tmod_eq_emod_of_nonneg (by omega), ← Int.natCast_add]; exact (Int.natCast_emod _ _).symm
        generalize M[(j + m) % M.length] = f at *
        generalize (j + m) % M.length = ix at *
        obtain ⟨fn, ft⟩ := f
        unfold encStr at c0' c1'
        simp only at c0' c1'
        clear hc1 hgt
        go_wp2_with fail
        refine (within4_nat _ by_ M.length (by omega) (by omega)).mono ?_
        rintro e w' ⟨rfl, rfl⟩
        rw [hmod]
        have hixi : (ix : Int) < (M.length : Int) := by omega
        have hOa := Lib.hid ((Only.refl [] wr).alloc (.cells #[.string ⟨fn.toArray⟩, .string ⟨ft.toArray⟩] 33))
        have hq := IsBlk.made wr (.cells #[.string ⟨fn.toArray⟩, .string ⟨ft.toArray⟩] 33)
        have Hq0 := Lib.hid (hq.cell 0)
        have Hq1 := Lib.hid (hq.cell 1)
        have Howa := Lib.hid (Hown.out.only hOa.out)
        have hszj : w1.heap.size ≤ (wr.alloc (.cells #[.string ⟨fn.toArray⟩, .string ⟨ft.toArray⟩] 33)).heap.size := Nat.le_trans HO.out.size hOa.out.size
        have htl : ((turnM M m).take j).length ≤ 1000000 := by rw [List.length_take]; omega
        clear hq hmod
        go_wp2_with (at_builtin; refine wpList_append_f rfl _ _ rfl w1.heap.size _ _ rfl Howa.out wr.heap.size 1 (fn, ft) rfl Hq0.out Hq1.out htl hszj ?_; intro v' w4 h4 hg4)
        go_roundw
        case rel => exact ⟨j + 1, by omega, by go_num, by rw [Htk.out]; exact h4, onlyOwn (HO.out.plus hOa.out) Howa.out hg4 (Nat.le_refl _)⟩
        case measure => simp [intOf]; omega
      · have hge : ¬ (j : Int) < (M.length : Int) := by omega
        have hown := Hown.out
        rw [List.take_of_length_le (by rw [Htl.out]; omega)] at hown
        obtain ⟨aT, cT, rfl, hfT, hbT⟩ := hown.files
        have hgT : goodM (turnM M m) := ⟨fun f hf => Hgood.out.1 f ((turn_perm M m).mem_iff.1 hf), ((turn_perm M m).map (·.1)).nodup_iff.2 Hgood.out.2⟩
        have HgT := Lib.hid hgT
        have HsT : Hid (∀ f ∈ turnM M m, f.1.length = 1 ∧ f.2.length ≤ 400) := Lib.hid (fun f hf => Hsmall.out f ((turn_perm M m).mem_iff.1 hf))
        have HbT : Hid (buildF (turnM M m) = buildF M) := Lib.hid (build_congr (turn_perm M m) Hgood.out.2)
        have HfT := Lib.hid hfT
        have HbTb := Lib.hid hbT
        have hbl8 : (buildF M).length ≤ 100000 := by rw [(build_perm M Hgood.out.2).length_eq]; omega
        have hsr := HO.out.size
        have hTl8 : (turnM M m).length ≤ 8 := by rw [Htl.out]; exact hl8
        have Hf1r := Lib.hid (Hf1.out.more HO.out)
        clear hown hfT hbT hgT Hown
        generalize turnM M m = T at *
        go_wp2_with fail
        refine (new_even _ 128 (by omega) (by omega)).mono ?_
        rintro e w3 ⟨pd, bl, bm, rfl, hD, hO3, hp1, hp2, hp3⟩
        have HD := Lib.hid hD
        have HO3 := Lib.hid (HO.out.plus hO3)
        have HfT3 := Lib.hid (HfT.out.more hO3)
        have Hf13 := Lib.hid (Hf1r.out.more hO3)
        have hs23 := hO3.size
        clear hD hO3
        go_wp2_with fail
        refine (openS_new _ pd bl bm 128 HD.out (by omega)).mono ?_
        rintro e w4 ⟨sp, lp, b, D, rfl, hS4, hsp, hlp, hb4, hO4⟩
        have HfT4 : Hid (FilesAt w4 aT T.length T) := Lib.hid (HfT3.out.keep hO4 (fun hp x y e hm => by
          obtain ⟨b', o', e', hb', -⟩ := HfT.out.2 hp; rw [e] at e'; injection e' with e'; injection e' with e1 e2; simp at hm; omega))
        have Hf14 : Hid (FilesAt w4 a1 M.length M) := Lib.hid (Hf13.out.keep hO4 (fun hp x y e hm => by
          obtain ⟨b', o', e', hb', -⟩ := Hf1.out.2 hp; rw [e] at e'; injection e' with e'; injection e' with e1 e2; simp at hm; omega))
        have HO4 := Lib.hid (HO3.out.trans hO4)
        have HS4 := Lib.hid hS4
        have hs34 := hO4.size
        clear hS4 hO4
        go_wp2_with fail
        refine (commit_fresh _ sp lp pd bl bm b D T aT _ cT HS4.out HfT4.out HgT.out HsT.out hTl8).mono ?_
        rintro e w5 ⟨rfl, bn, D', L', rs', k', hS5, hbn, hLs, hO5⟩
        rw [HbT.out] at hS5
        have Hf15 : Hid (FilesAt w5 a1 M.length M) := Lib.hid (Hf14.out.keep hO5 (fun hp x y e hm => by
          obtain ⟨b', o', e', hb', -⟩ := Hf1.out.2 hp; rw [e] at e'; injection e' with e'; injection e' with e1 e2; simp at hm; omega))
        have HO5 := Lib.hid (HO4.out.trans hO5)
        have HS5 := Lib.hid hS5
        clear hS5 hO5
        go_wp2_with fail
        refine (files_any _ sp lp pd bl bm bn D' _ _ _ _ HS5.out hbl8).mono ?_
        rintro e w6 ⟨v6, rfl, hv6, hO6⟩
        obtain ⟨a6, c6, rfl, hf6, hb6⟩ := hv6.files
        have Hf6 := Lib.hid hf6
        have Hf16 := Lib.hid (Hf15.out.more hO6)
        have HS6 := Lib.hid (HS5.out.more hO6)
        have HO6 := Lib.hid (HO5.out.plus hO6)
        clear hv6 hf6 hO6 hb6
        go_wp2_with fail
        refine (sorted_any _ a1 _ c1 M Hf16.out (by omega)).mono ?_
        rintro e w7 ⟨v7, rfl, hv7, hO7⟩
        rw [Hsort.out] at hv7
        obtain ⟨a7, c7, rfl, hf7, hb7⟩ := hv7.files
        have Hf7 := Lib.hid hf7
        have Hf67 := Lib.hid (Hf6.out.more hO7)
        have Hf17 := Lib.hid (Hf16.out.more hO7)
        have HS7 := Lib.hid (HS6.out.more hO7)
        have HO7 := Lib.hid (HO6.out.plus hO7)
        clear hv7 hf7 hO7 hb7
        go_wp2_with fail
        refine (same4_any _ a6 a7 c6 c7 (buildF M) (buildF M) Hf67.out Hf7.out (by omega)).mono ?_
        rintro e w8 ⟨rfl, hO8⟩
        rw [decide_eq_true (rfl : buildF M = buildF M)]
        have Hf18 := Lib.hid (Hf17.out.more hO8)
        have HS8 := Lib.hid (HS7.out.more hO8)
        have HO8 := Lib.hid (HO7.out.plus hO8)
        clear hO8
        go_wp2_with fail
        refine (ops_any _ pd bl _ bm _ _ _ HS8.out.wl.disk.blk).mono ?_
        rintro e w' ⟨rfl, rfl⟩
        obtain ⟨q1, q2⟩ := small_set Hgood.out Hsmall.out hl8
        have hsd : soundM M = true := by simp [soundM, Hgood.out, hl8]
        have p1 : partsN (setB (buildF M)).length ≤ 128 := by unfold partsN; omega
        go_wp2_with fail
        refine (commit_same _ sp lp pd bl bm bn D' L' rs' k' M a1 _ c1 HS8.out Hf18.out (fun f hf => by have := Hsmall.out f hf; unfold maxLen; omega) (by unfold maxLen; omega) hsd (by omega) (by omega)).mono ?_
        rintro e w9 ⟨rfl, hS9, hO9⟩
        have HS9 := Lib.hid hS9
        have HO9 := Lib.hid (HO8.out.plus hO9)
        clear hS9 hO9 q1 q2 hsd p1
        go_wp2_with fail
        refine (ops_any _ pd bl _ bm _ _ _ HS9.out.wl.disk.blk).mono ?_
        rintro e w' ⟨rfl, rfl⟩
        go_wp2_with fail
        refine (few1_none _).mono ?_
        rintro e w' ⟨rfl, rfl⟩
        go_wp2
        go_ret
        refine ⟨rfl, ?_⟩
        exact (HO1.out.trans HO9.out).into (fun x hx => by simp at hx; have := HO1.out.size; omega)

end Go.Proofs.Ytkpfplejooplfaa
