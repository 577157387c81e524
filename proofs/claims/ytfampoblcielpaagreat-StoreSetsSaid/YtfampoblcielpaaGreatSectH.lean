/-
  The function Parse of the package sect, by contracts.
-/
import Derived.Test.YtfampoblcielpaaGreatSectG
import Derived.Deep.RegionHeld3
import Derived.Deep.CutBlock
import Derived.Deep.DeepCutAuto
import Derived.IntWalk
import Derived.Laws.ResultCell
namespace Go.Proofs.YtfampoblcielpaaGreat
set_option linter.unusedVariables false
set_option maxRecDepth 100000
open Go.RowKit

/-- A Part of noughts. -/
def part0 : Value := .agg #[.int .i64 0, .int .i64 0, .int .i64 0, .int .i64 0, .slice none 0 0]

theorem results_ct {P : Program} {fn : Func} {p u : Tmp} {ty : TypeId} (h : fn.results = #[.cell p ty, .tmp u]) (tmps : Array Value) (w : World) (g : Nat) (cs : Array Value)
    (hp : tmps.getD p undef = .pointer (some ⟨g, 0, none⟩))
    (hl : (loadVar ty ⟨g, 0, none⟩).run P w = .ok (.agg cs) w) :
    (results fn tmps).run P w = .ok (.tuple #[.agg cs, tmps.getD u undef]) w := by
  rw [results_cell_tmp h, hp]
  simp [asAddr, hl]
theorem load_part (w : World) (g : Nat) (cs : Array Value) (hg : IsBlk w g (.cells cs 102)) (h5 : cs.size = 5) : (loadVar 102 ⟨g, 0, none⟩).run Tryz.prog w = .ok (.agg cs) w :=
  run_loadVar_row w g 102 102 cs (0, 0) _ hg Tryz.underlying102 rfl (by rw [h5]; exact sizePart)

set_option maxHeartbeats 2000000 in
theorem parse_len (w : World) (a : Option Addr) (len cap : Nat) (hl : len ≠ 64) :
    Calls Tryz.prog 47 #[.slice a len cap] w fun e w' => e = .returned (.tuple #[part0, .bool false]) ∧ Only [] w w' := by
  have hne : ((len : Int) != 64) = true := by simp; omega
  go_enter Tryz.func47, Tryz.ntmps47
  go_wp2
  (try simp only [Exit.inBlock, Exit.then])
  refine bodyPost_ret_by (results_ct rfl _ _ w.heap.size _ rfl (load_part _ _ _ (IsBlk.made _ _) rfl)) rfl ?_
  exact ⟨rfl, (Only.refl _ _).alloc _⟩

theorem two_keep {w W : World} {b x y : Nat} {u v : Value} (hO : Only [] w W) (hb : b < w.heap.size) (h1 : w.cell? ⟨b, x, none⟩ = some u) (h2 : w.cell? ⟨b, y, none⟩ = some v) : W.cell? ⟨b, x, none⟩ = some u ∧ W.cell? ⟨b, y, none⟩ = some v :=
  ⟨(hO.cell (p := ⟨b, x, none⟩) hb (by simp)).trans h1, (hO.cell (p := ⟨b, y, none⟩) hb (by simp)).trans h2⟩

theorem blk_setPart {w : World} {q : Nat} {x0 x1 x2 x3 x4 : Value} {t : TypeId} (h : IsBlk w q (.cells #[x0, x1, x2, x3, x4] t)) (g r n o : Int) (a : Option Addr) (l c : Nat) :
    IsBlk (w.setCells q 0 (partC g r n o a l c)) q (.cells #[.int .i64 g, .int .i64 r, .int .i64 n, .int .i64 o, .slice a l c] t) := by
  have h1 := h.put 0 (.int .i64 g)
  have h2 := IsBlk.put h1 1 (.int .i64 r)
  have h3 := IsBlk.put h2 2 (.int .i64 n)
  have h4 := IsBlk.put h3 3 (.int .i64 o)
  have h5 := IsBlk.put h4 4 (.slice a l c)
  exact h5

/-- What Parse leaves. -/
def ParseTo (w : World) (x : Option PartM) (e : Ending) (w' : World) : Prop :=
  match x with
  | none => e = .returned (.tuple #[part0, .bool false]) ∧ Only [] w w'
  | some p => ∃ gd, e = .returned (.tuple #[.agg #[.int .i64 p.g, .int .i64 p.r, .int .i64 p.n, .int .i64 p.o, .slice (some ⟨gd, 0, none⟩) 52 52], .bool true]) ∧ IsBlk w' gd (.cells (bv p.d).toArray 5) ∧ p.d.length = 52 ∧ w.heap.size ≤ gd ∧ Only [] w w'

/-- On the way through Parse. -/
structure PS (w W : World) (q gp gd : Nat) (g r n o : Nat) (L : List UInt8) : Prop where
  box : PBox W gp g r n o (some ⟨gd, 0, none⟩) 52 52 102
  blk : IsBlk W gd (.cells (bv L).toArray 5)
  out : PBox W q 0 0 0 0 none 0 0 102
  only : Only [] w W
  old : w.heap.size ≤ q
  n1 : q < gp
  n2 : q < gd
  n3 : gp ≠ gd
theorem PS.same {w W W' : World} {q gp gd g r n o : Nat} {L : List UInt8} (h : PS w W q gp gd g r n o L) (hO : Only [] W W') : PS w W' q gp gd g r n o L :=
  ⟨IsBlk.only h.box hO (by simp), IsBlk.only h.blk hO (by simp), IsBlk.only h.out hO (by simp), h.only.then hO [] (by simp) (by simp), h.old, h.n1, h.n2, h.n3⟩
theorem PS.step {w W W' : World} {q gp gd g r n o : Nat} {L L' : List UInt8} (h : PS w W q gp gd g r n o L) (hO : Only [gd] W W') (hb : IsBlk W' gd (.cells (bv L').toArray 5)) : PS w W' q gp gd g r n o L' :=
  ⟨IsBlk.only h.box hO (by simpa using h.n3), hb, IsBlk.only h.out hO (by have := h.n2; simp; omega), h.only.then hO [] (by simp) (by simp; have := h.n2; have := h.old; omega), h.old, h.n1, h.n2, h.n3⟩
theorem PS.end {w W : World} {q gp gd g r n o : Nat} {L : List UInt8} (h : PS w W q gp gd g r n o L) (g' r' n' o' : Int) (a : Option Addr) (l c : Nat) :
    PBox (W.setCells q 0 (partC g' r' n' o' a l c)) q g' r' n' o' a l c 102 ∧ IsBlk (W.setCells q 0 (partC g' r' n' o' a l c)) gd (.cells (bv L).toArray 5) ∧ Only [] w (W.setCells q 0 (partC g' r' n' o' a l c)) :=
  ⟨blk_setPart h.out _ _ _ _ _ _ _, (heap_setCells_other q _ _ _ gd (by have := h.n2; omega)).trans h.blk, h.only.setCells _ _ _ (.inr h.old)⟩

theorem ps_made1 (w : World) (g r n o : Nat) :
    PS w (((w.alloc (.cells #[.int .i64 0, .int .i64 0, .int .i64 0, .int .i64 0, .slice none 0 0] 102)).alloc (.cells (bv (nul 52)).toArray 5)).alloc
      (.cells #[.int .i64 g, .int .i64 r, .int .i64 n, .int .i64 o, .slice (some ⟨w.heap.size + 1, 0, none⟩) 52 52] 102)).drew w.heap.size (w.heap.size + 1 + 1) (w.heap.size + 1) g r n o (nul 52) := by
  have h1 := IsBlk.made w (.cells #[.int .i64 0, .int .i64 0, .int .i64 0, .int .i64 0, .slice none 0 0] 102)
  have h2 := IsBlk.made (w.alloc (.cells #[.int .i64 0, .int .i64 0, .int .i64 0, .int .i64 0, .slice none 0 0] 102)) (.cells (bv (nul 52)).toArray 5)
  have h3 := IsBlk.made ((w.alloc (.cells #[.int .i64 0, .int .i64 0, .int .i64 0, .int .i64 0, .slice none 0 0] 102)).alloc (.cells (bv (nul 52)).toArray 5)) (.cells #[.int .i64 g, .int .i64 r, .int .i64 n, .int .i64 o, .slice (some ⟨w.heap.size + 1, 0, none⟩) 52 52] 102)
  simp only [World.size_alloc] at h2 h3
  exact ⟨IsBlk.drew h3, IsBlk.drew (h2.alloc _), IsBlk.drew ((h1.alloc _).alloc _), ((((Only.refl _ _).alloc _).alloc _).alloc _).drew, Nat.le_refl _, by omega, by omega, by omega⟩
theorem ps_made2 (w : World) (g r n o : Nat) :
    PS w (((w.alloc (.cells #[.int .i64 0, .int .i64 0, .int .i64 0, .int .i64 0, .slice none 0 0] 102)).alloc
      (.cells #[.int .i64 g, .int .i64 r, .int .i64 n, .int .i64 o, .slice (some ⟨w.heap.size + 1 + 1, 0, none⟩) 52 52] 102)).alloc (.cells (bv (nul 52)).toArray 5)).drew w.heap.size (w.heap.size + 1) (w.heap.size + 1 + 1) g r n o (nul 52) := by
  have h1 := IsBlk.made w (.cells #[.int .i64 0, .int .i64 0, .int .i64 0, .int .i64 0, .slice none 0 0] 102)
  have h2 := IsBlk.made (w.alloc (.cells #[.int .i64 0, .int .i64 0, .int .i64 0, .int .i64 0, .slice none 0 0] 102)) (.cells #[.int .i64 g, .int .i64 r, .int .i64 n, .int .i64 o, .slice (some ⟨w.heap.size + 1 + 1, 0, none⟩) 52 52] 102)
  have h3 := IsBlk.made ((w.alloc (.cells #[.int .i64 0, .int .i64 0, .int .i64 0, .int .i64 0, .slice none 0 0] 102)).alloc (.cells #[.int .i64 g, .int .i64 r, .int .i64 n, .int .i64 o, .slice (some ⟨w.heap.size + 1 + 1, 0, none⟩) 52 52] 102)) (.cells (bv (nul 52)).toArray 5)
  simp only [World.size_alloc] at h2 h3
  exact ⟨IsBlk.drew (h2.alloc _), IsBlk.drew h3, IsBlk.drew ((h1.alloc _).alloc _), ((((Only.refl _ _).alloc _).alloc _).alloc _).drew, Nat.le_refl _, by omega, by omega, by omega⟩

theorem wrap_nat (n : Nat) (h : n < 9223372036854775808) : IntKind.i64.wrap (n : Int) = (n : Int) := IntWalk.i64_in _ (by omega)
theorem numB_one (l : List UInt8) (k : Nat) (h : k < l.length) : numB ((l.drop k).take 1) = l[k].toNat := by
  rw [List.drop_eq_getElem_cons h, List.take_succ_cons, List.take_zero]; simp [numB]
theorem parse_no {l : List UInt8} (h : okB (readP l) = false ∨ bytesB (readP l) ≠ l) : parseB l = none := by
  unfold parseB
  rw [if_neg]
  rintro ⟨_, h1, h2⟩
  rcases h with h | h
  · rw [h] at h1; cases h1
  · exact h h2

set_option maxHeartbeats 8000000 in
theorem parse_any (w : World) (b o cap : Nat) (hcap : 64 ≤ cap) (l : List UInt8) (hs : Src w (some ⟨b, o, none⟩) 64 l) :
    Calls Tryz.prog 47 #[.slice (some ⟨b, o, none⟩) 64 cap] w (ParseTo w (parseB l)) := by
  have hl := hs.1
  obtain ⟨b', o', e, hbl, hr⟩ := hs.2 (by omega)
  injection e with e; injection e with e1 e2; subst e1; subst e2
  have hc6 := Src.cell hr 6 (by omega)
  have hc7 := Src.cell hr 7 (by omega)
  have hmk : ∀ W : World, (Instr.makeSlice 37 (.int .i64 52) (.int .i64 52)).run Tryz.prog W = .ok (.slice (some ⟨W.heap.size, 0, none⟩) 52 52) (W.alloc (.cells (bv (nul 52)).toArray 5)) := fun W => make_bytes W 52 (by omega)
  have Hs := Lib.hid hs
  have hci : (64 : Int) ≤ (cap : Int) := by omega
  have hci4 : (4 : Int) ≤ (cap : Int) := by omega
  have hci6 : (6 : Int) ≤ (cap : Int) := by omega
  have hrp : readP l = ⟨numB (l.take 4), numB ((l.drop 4).take 2), l[6].toNat, l[7].toNat, l.drop 12⟩ := by
    simp only [readP]; rw [numB_one l 6 (by omega), numB_one l 7 (by omega)]
  have Hrp := Lib.hid hrp
  clear hrp
  have hv6 := (l[6]).toNat_lt
  have hv7 := (l[7]).toNat_lt
  have hG : numB (l.take 4) < 4294967296 := by have := numB_lt (l.take 4); rw [List.length_take, hl] at this; simpa using this
  have hR : numB ((l.drop 4).take 2) < 65536 := by have := numB_lt ((l.drop 4).take 2); rw [List.length_take, List.length_drop, hl] at this; simpa using this
  have w0 := wrap_nat (numB (l.take 4)) (by omega)
  have w1 := wrap_nat (numB ((l.drop 4).take 2)) (by omega)
  have w2 := wrap_nat (l[6].toNat) (by omega)
  have w3 := wrap_nat (l[7].toNat) (by omega)
  generalize hg6 : l[6].toNat = v6 at *
  generalize hg7 : l[7].toNat = v7 at *
  have Hl := Lib.hid hl
  clear hs hr hcap hl hg6 hg7
  go_enter Tryz.func47, Tryz.ntmps47
  go_upto_region 3 with fail
  go_cut [4] (fun s4 wx => ∃ gp gd, s4 = .pointer (some ⟨gp, 0, none⟩) ∧ PS w wx w.heap.size gp gd (numB (l.take 4)) (numB ((l.drop 4).take 2)) v6 v7 (nul 52))
  case first =>
    go_region_held3 (fun W => W.cell? ⟨b, o + 6, none⟩ = some (.int .u8 v6) ∧ W.cell? ⟨b, o + 7, none⟩ = some (.int .u8 v7)) (first | assumption | exact two_keep (by repeat (first | exact Only.refl _ _ | refine Only.drew ?_ | refine Only.alloc ?_ _ | refine Only.setCell ?_ (by simp) _)) hbl hc6 hc7)
      (first
        | (go_at_call 71
           refine Calls.mono (number_any _ _ _ _ _ (by first | exact ((Hs.out.more (by repeat (first | exact Only.refl _ _ | refine Only.drew ?_ | refine Only.alloc ?_ _))).sub 0 4 (by omega)) | exact ((Hs.out.more (by repeat (first | exact Only.refl _ _ | refine Only.drew ?_ | refine Only.alloc ?_ _))).sub 4 2 (by omega))) (by omega)) ?_
           rintro e w' ⟨rfl, rfl⟩))
    all_goals
      go_wp2_with fail
      go_meet
    all_goals first
      | exact ⟨_, _, rfl, ps_made1 w _ _ _ _⟩
      | exact ⟨_, _, rfl, ps_made2 w _ _ _ _⟩
  case rest =>
    obtain ⟨gp, gd, rfl, hPS⟩ := hcut
    have hPd := hPS.same (Only.refl [] wc).drew
    have hci12 : (12 : Int) ≤ (cap : Int) := by omega
    have hcne : ¬ cap = 12 := by omega
    have HrpG := Hrp
    generalize numB (l.take 4) = G at *
    generalize numB ((l.drop 4).take 2) = R at *
    go_wp2_with fail
    refine still_tail 4 (by kernel_rfl) (by kernel_rfl) ?_
    simp only [List.take_succ_cons, List.take_zero, List.drop_succ_cons, List.drop_zero]
    clear hPS
    generalize wc.drew = W at *
    have c4 : W.cell? ⟨gp, 4, none⟩ = some (.slice (some ⟨gd, 0, none⟩) 52 52) := IsBlk.cell hPd.box 4
    have HP := Lib.hid hPd
    clear hPd
    iterate 4 still_step
    refine wpStill_nil ?_
    refine wpList_copy_b rfl _ _ rfl gd 0 52 _ rfl (some ⟨b, o + 12, none⟩) 52 _ rfl (nul 52) _ HP.out.blk ((Hs.out.more HP.out.only).sub 12 52 (by omega)) (by rw [length_nul]; omega) fun W2 nn hb2 hO2 => ?_
    have hd12 : putB (nul 52) 0 (((l.drop 12).take 52).take 52) = l.drop 12 := by
      have e1 : (l.drop 12).length = 52 := by rw [List.length_drop, Hl.out]
      rw [List.take_of_length_le (by rw [List.length_take]; omega), List.take_of_length_le (by omega)]
      unfold putB nul
      rw [e1]; simp
    rw [hd12] at hb2
    have hP2 := HP.out.step hO2 hb2
    clear HP hb2 hO2 c4 hd12
    have hd52 : (l.drop 12).length = 52 := by rw [List.length_drop, Hl.out]
    have d0 : W2.cell? ⟨gp, 0, none⟩ = some (.int .i64 G) := IsBlk.cell hP2.box 0
    have d1 : W2.cell? ⟨gp, 1, none⟩ = some (.int .i64 R) := IsBlk.cell hP2.box 1
    have d2 : W2.cell? ⟨gp, 2, none⟩ = some (.int .i64 v6) := IsBlk.cell hP2.box 2
    have d3 : W2.cell? ⟨gp, 3, none⟩ = some (.int .i64 v7) := IsBlk.cell hP2.box 3
    have d4 : W2.cell? ⟨gp, 4, none⟩ = some (.slice (some ⟨gd, 0, none⟩) 52 52) := IsBlk.cell hP2.box 4
    have hsd : Src W2 (some ⟨gd, 0, none⟩) 52 (l.drop 12) := by have := src_blk hP2.blk 0 52 (by omega); rwa [List.drop_zero, List.take_of_length_le (by omega)] at this
    have HP2 := Lib.hid hP2
    have Hsd := Lib.hid hsd
    have Hd52 := Lib.hid hd52
    clear hP2 hsd hd52
    cases hok : okB ⟨G, R, v6, v7, l.drop 12⟩ with
    | false =>
      have hno := Lib.hid (parse_no (l := l) (.inl (by rw [Hrp.out]; exact hok)))
      go_wp2_with fail
      refine (bytes_bad _ G R v6 v7 _ 52 52 (l.drop 12) Hd52.out hok).mono ?_
      rintro e W3 ⟨rfl, hO3⟩
      have hP3 := HP2.out.same hO3
      have HP3 := Lib.hid hP3
      clear hP3 hO3 HP2 d0 d1 d2 d3 d4
      go_wp2_with (refine wpList_store_part rfl _ sizePart _ _ rfl w.heap.size 0 0 0 0 0 none 0 0 rfl rfl (there_blk HP3.out.out 0 5 (by simp)) ?_; intro w3 Hw3)
      (try simp only [Exit.inBlock, Exit.then])
      have hE := HP3.out.end 0 0 0 0 none 0 0
      rw [← Hw3.out] at hE
      refine bodyPost_ret_by (results_ct rfl _ _ w.heap.size _ rfl (load_part _ _ _ hE.1 rfl)) rfl ?_
      rw [hno.out]
      exact ⟨rfl, hE.2.2⟩
    | true =>
      go_wp2_with fail
      refine (bytes_ok _ G R v6 v7 _ 52 52 (l.drop 12) hok Hsd.out).mono ?_
      rintro e W3 ⟨gb, rfl, hb3, hg3, hO3⟩
      have hP3 := HP2.out.same hO3
      have hs3 : Src W3 (some ⟨gb, 0, none⟩) 64 (bytesB ⟨G, R, v6, v7, l.drop 12⟩) := by
        have hlen : (bytesB ⟨G, R, v6, v7, l.drop 12⟩).length = 64 := length_bytesB Hd52.out
        have := src_blk hb3 0 64 (by omega); rwa [List.drop_zero, List.take_of_length_le (by omega)] at this
      have hsl3 := Lib.hid (Hs.out.more hP3.only)
      have e0 : W3.cell? ⟨gp, 0, none⟩ = some (.int .i64 G) := IsBlk.cell hP3.box 0
      have e1 : W3.cell? ⟨gp, 1, none⟩ = some (.int .i64 R) := IsBlk.cell hP3.box 1
      have e2 : W3.cell? ⟨gp, 2, none⟩ = some (.int .i64 v6) := IsBlk.cell hP3.box 2
      have e3 : W3.cell? ⟨gp, 3, none⟩ = some (.int .i64 v7) := IsBlk.cell hP3.box 3
      have e4 : W3.cell? ⟨gp, 4, none⟩ = some (.slice (some ⟨gd, 0, none⟩) 52 52) := IsBlk.cell hP3.box 4
      have HP3 := Lib.hid hP3
      have Hs3 := Lib.hid hs3
      clear hP3 hO3 HP2 hs3 hb3 d0 d1 d2 d3 d4
      go_wp2_with fail
      refine (equal_any _ _ _ _ _ _ _ _ _ Hs3.out hsl3.out).mono ?_
      by_cases heq : bytesB ⟨G, R, v6, v7, l.drop 12⟩ = l
      · rw [decide_eq_true heq]
        rintro e w' ⟨rfl, rfl⟩
        have hyes : Hid (parseB l = some ⟨G, R, v6, v7, l.drop 12⟩) := Lib.hid (by
          unfold parseB; rw [if_pos ⟨Hl.out, by rw [Hrp.out]; exact hok, by rw [Hrp.out]; exact heq⟩, Hrp.out])
        clear heq
        go_wp2_with (refine wpList_store_part rfl _ sizePart _ _ rfl w.heap.size 0 G R v6 v7 (some ⟨gd, 0, none⟩) 52 52 rfl rfl (there_blk HP3.out.out 0 5 (by simp)) ?_; intro w3 Hw3)
        (try simp only [Exit.inBlock, Exit.then])
        have hE := HP3.out.end G R v6 v7 (some ⟨gd, 0, none⟩) 52 52
        rw [← Hw3.out] at hE
        refine bodyPost_ret_by (results_ct rfl _ _ w.heap.size _ rfl (load_part _ _ _ hE.1 rfl)) rfl ?_
        rw [hyes.out]
        exact ⟨gd, rfl, hE.2.1, Hd52.out, by have := HP3.out.n2; omega, hE.2.2⟩
      · rw [decide_eq_false heq]
        rintro e w' ⟨rfl, rfl⟩
        have hno := Lib.hid (parse_no (l := l) (.inr (by rw [Hrp.out]; exact heq)))
        clear heq
        go_wp2_with (refine wpList_store_part rfl _ sizePart _ _ rfl w.heap.size 0 0 0 0 0 none 0 0 rfl rfl (there_blk HP3.out.out 0 5 (by simp)) ?_; intro w3 Hw3)
        (try simp only [Exit.inBlock, Exit.then])
        have hE := HP3.out.end 0 0 0 0 none 0 0
        rw [← Hw3.out] at hE
        refine bodyPost_ret_by (results_ct rfl _ _ w.heap.size _ rfl (load_part _ _ _ hE.1 rfl)) rfl ?_
        rw [hno.out]
        exact ⟨rfl, hE.2.2⟩

end Go.Proofs.YtfampoblcielpaaGreat
