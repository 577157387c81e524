/-
  The walk of the law ParsePlaces.
-/
import Derived.Test.YtonpfmhdefhhmaaPbD
namespace Go.Proofs.Ytonpfmhdefhhmaa
set_option maxRecDepth 100000
set_option linter.unusedVariables false
open Go.RowKit Go.Sort

theorem cnt_erase : ∀ (b : Blk), (eraseB b).cnt = b.cnt
  | .nil => rfl
  | .cons k p n a b r => by rw [eraseB, Blk.cnt, Blk.cnt, cnt_erase a, cnt_erase b, cnt_erase r]
theorem parse_long (s : List UInt8) (h : 2000 < s.length) : parseM s = (⟨[], [], []⟩, 0, 2) := by
  have ht : tokM s = ([], 0, 2) := by unfold tokM; rw [if_pos h]
  unfold parseM
  rw [ht]
  rfl
/-- What is read of a written program. -/
theorem parse_back (P : ProgM) (hI : ∀ x ∈ itemsP P, GoodI x) (hl : (progT P).length ≤ 2000) : ∃ Q, parseM (progT P) = (Q, 0, 0) ∧ eraseP Q = eraseP P ∧ ∀ f ∈ Q.funcs, FuncOk (progT P) f := by
  rw [text_items] at hl ⊢
  refine ⟨_, parse_items (itemsP P) hI hl, ?_, ?_⟩
  · rw [erase_new, progI_items]
  · exact funcs_stand _ (itemsP P) 0 ⟨[], [], []⟩ hI rfl (by simp)
theorem erase_funcs {P Q : ProgM} (h : eraseP Q = eraseP P) : Q.funcs.length = P.funcs.length ∧ ∀ f ∈ Q.funcs, ∃ f0 ∈ P.funcs, f.name = f0.name ∧ eraseB f.body = eraseB f0.body := by
  have h1 : eraseF Q.funcs = eraseF P.funcs := congrArg ProgM.funcs h
  refine ⟨by simpa [eraseF] using congrArg List.length h1, fun f hf => ?_⟩
  have h2 : (⟨f.name, 0, eraseB f.body⟩ : FuncM) ∈ eraseF P.funcs := by rw [← h1]; exact List.mem_map.2 ⟨f, hf, rfl⟩
  obtain ⟨f0, h3, h4⟩ := List.mem_map.1 h2
  injection h4 with h5 h6 h7
  exact ⟨f0, h3, h5.symm, h7.symm⟩
theorem few_nil : FewR .nil := by unfold FewR sizeM; decide

set_option maxHeartbeats 16000000 in
theorem pplaces_walk (va vb : Value) (a b : RawM) (w : World) (ha : RawAt w va a) (hb : RawAt w vb b) :
    Calls Try.prog 8 #[va, vb] w fun e w' => e = .returned (.bool true) ∧ Only [] w w' := by
  have Ha := Lib.hid ha
  have Hb := Lib.hid hb
  obtain ⟨aa, ca, rfl, -⟩ := ha
  obtain ⟨ab, cb, rfl, -⟩ := hb
  go_enter Try.func8, Try.ntmps8
  go_wp2_with fail
  refine (known6_any _).mono ?_
  rintro e w0 ⟨rfl, hO0⟩
  have HO0 := Lib.hid hO0
  clear hO0
  go_wp2_with fail
  refine (few6_any a _ _ (Ha.out.more HO0.out)).mono ?_
  rintro e w1 ⟨rfl, hO1⟩
  have HO1 := Lib.hid (HO0.out.plus hO1)
  clear hO1
  by_cases hfa : sizeM a 0 ≤ 40
  · rw [show decide (sizeM a 0 ≤ 40) = true from by simp [hfa]]
    have Hfa := Lib.hid hfa
    clear hfa
    go_wp2_with fail
    refine (few6_any b _ _ (Hb.out.more HO1.out)).mono ?_
    rintro e w2 ⟨rfl, hO2⟩
    have HO2 := Lib.hid (HO1.out.plus hO2)
    clear hO2
    by_cases hfb : sizeM b 0 ≤ 40
    · rw [show decide (sizeM b 0 ≤ 40) = true from by simp [hfb]]
      have Hfb := Lib.hid hfb
      clear hfb
      go_wp2_with fail
      have hnil : RawAt w2 (.slice none 0 0) .nil := ⟨none, 0, rfl, Nat.zero_le _, fun h => by simp [RawM.len] at h⟩
      refine (prog6_any a b .nil .nil 1 w2 _ _ _ _ (Ha.out.more HO2.out) (Hb.out.more HO2.out) hnil hnil (by have := few_cnt Hfa.out; omega) (by have := few_cnt Hfb.out; omega) (by simp [RawM.cnt]) (by simp [RawM.cnt])).mono ?_
      rintro e w3 ⟨pv, pl, pf, rfl, hP, hO3⟩
      obtain ⟨hI, hB, hL⟩ := progR_good 1 Hfa.out Hfb.out few_nil few_nil
      have HT := Lib.hid (rtext_any w3 pv pl pf (progR a b .nil .nil 1) hP (by omega) (fun f hf => (hB f hf).2) ⟨by show 3 ≤ 1000000; omega, by unfold progR; simp only; split <;> simp, by unfold progR; simp only; split <;> simp⟩)
      have hfl : (progR a b .nil .nil 1).funcs.length = 4 := by unfold progR; simp only; split <;> rfl
      have hpb := parse_back (progR a b .nil .nil 1) hI
      have hpl := parse_long (progT (progR a b .nil .nil 1))
      have HO3 := Lib.hid (HO2.out.plus hO3)
      have Hpb : Hid ((progT (progR a b .nil .nil 1)).length ≤ 2000 → ∃ Q, parseM (progT (progR a b .nil .nil 1)) = (Q, 0, 0) ∧ Q.funcs.length = 4 ∧ ∀ f ∈ Q.funcs, FuncOk (progT (progR a b .nil .nil 1)) f ∧ f.body.cnt ≤ 100000) := Lib.hid (fun h => by
        obtain ⟨Q, h1, h2, h3⟩ := hpb h
        obtain ⟨h4, h5⟩ := erase_funcs h2
        refine ⟨Q, h1, by rw [h4, hfl], fun f hf => ⟨h3 f hf, ?_⟩⟩
        obtain ⟨f0, g1, g2, g3⟩ := h5 f hf
        rw [← cnt_erase, g3, cnt_erase]
        exact (hB f0 g1).1)
      have Hpl := Lib.hid hpl
      clear hpb hpl hB hI hfl hnil hP hO3
      generalize progR a b .nil .nil 1 = P at *
      go_wp2_with fail
      refine HT.out.mono ?_
      rintro e w4 ⟨rfl, hO4⟩
      have HO4 := Lib.hid (HO3.out.plus hO4)
      clear hO4 HT
      generalize progT P = s at *
      unfold encStr
      go_wp2_with fail
      refine (pparse_any w4 s (by omega)).mono ?_
      rintro e w5 ⟨vv, vl, vf, rfl, hQ, hO5⟩
      have HO5 := Lib.hid (HO4.out.plus hO5)
      clear hO5
      by_cases hs : s.length ≤ 2000
      · have hsi : ¬ (2000 : Int) < (s.length : Int) := by omega
        obtain ⟨Q, h1, h2, h3⟩ := Hpb.out hs
        rw [h1] at hQ ⊢
        have H3 := Lib.hid h3
        obtain ⟨⟨av, cv, rfl, hcv, -⟩, ⟨al, cl, rfl, hcl, -⟩, ⟨af, cf, rfl, hcf, hff⟩⟩ := hQ
        simp only at hcv hcl hcf hff ⊢
        rw [h2] at hcf hff ⊢
        have Hff := Lib.hid hff
        have hOa := (Only.refl [] w5).alloc (.cells #[.slice av Q.vars.length cv, .slice al Q.locks.length cl, .slice af 4 cf] 30)
        have hq := IsBlk.made w5 (.cells #[.slice av Q.vars.length cv, .slice al Q.locks.length cl, .slice af 4 cf] 30)
        have hqs := hOa.size
        clear hff h3 h1
        go_upto_region 7 with fail
        generalize hW6 : w5.alloc (.cells #[.slice av Q.vars.length cv, .slice al Q.locks.length cl, .slice af 4 cf] 30) = w6 at *
        clear hW6
        have HOa := Lib.hid hOa
        have Hq := Lib.hid hq
        have q2 := hq.cell 2
        have ql := hq.lt
        clear hOa hq
        go_wp2_with fail
        go_loopw [9] (fun iv wr => ∃ i : Nat, iv = .int .i64 i ∧ i ≤ 4 ∧ Only [] w6 wr) (fun iv _ => 4 - (intOf iv).toNat)
        case atStart => exact ⟨0, rfl, Nat.zero_le _, Only.refl _ _⟩
        case round =>
          obtain ⟨i, rfl, hi, hO⟩ := hrel
          have HO := Lib.hid hO
          have hp2 := (Hq.out.only hO (by simp)).cell 2
          have hp3 := Nat.lt_of_lt_of_le ql hO.size
          clear hO q2 ql
          by_cases hlt : i < 4
          · have hlti : (i : Int) < 4 := by omega
            have hget : Q.funcs[i]? = some Q.funcs[i] := List.getElem?_eq_getElem (by omega)
            obtain ⟨⟨hrd, hsb⟩, hcn⟩ := H3.out _ (List.getElem_mem (show i < Q.funcs.length by omega))
            obtain ⟨g, xs, fp, hag, hg, hra, hef⟩ := Hff.out (by omega)
            obtain ⟨ba, fa, e1, e2, e3, hbk, hnd⟩ := hef.get _ _ hget
            have r1 := hra _ _ e1
            have r2 := hra _ _ e2
            have r3 := hra _ _ e3
            rw [Nat.zero_add] at r1 r2 r3
            have hOr := HOa.out.plus HO.out
            have c0 := (hOr.cell (p := ⟨g, i * 3, none⟩) hg (by simp)).trans r1
            have c1 := (hOr.cell (p := ⟨g, i * 3 + 1, none⟩) hg (by simp)).trans r2
            have c2 := (hOr.cell (p := ⟨g, i * 3 + 2, none⟩) hg (by simp)).trans r3
            have hgr := Nat.lt_of_lt_of_le hg hOr.size
            have Hbk := Lib.hid (hbk.more hOr)
            obtain ⟨xa, xc, rfl, -⟩ := hbk.slice
            clear r1 r2 r3 e1 e2 e3 hra hef hnd hbk hget hOr
            generalize Q.funcs[i] = d at *
            have hrl := hrd.1
            have hwl : (funcW ++ 32 :: d.name).length = 5 + d.name.length := by simp [funcW]; omega
            have hOb := (Only.refl [] wr).alloc (.cells #[.string ⟨d.name.toArray⟩, .int .i64 d.at_, .slice xa d.body.len xc] 47)
            have hqb := IsBlk.made wr (.cells #[.string ⟨d.name.toArray⟩, .int .i64 d.at_, .slice xa d.body.len xc] 47)
            have HS : Hid (∀ W, Only [] wr W → Calls Try.prog 27 #[.string ⟨s.toArray⟩, .slice xa d.body.len xc] W fun e w' => e = .returned (.bool true) ∧ Only [] W w') :=
              Lib.hid (fun W hW => stands_any s (by omega) _ d.body (Nat.le_refl _) hcn W _ fa (Hbk.out.more hW) hsb)
            have Hrd := Lib.hid hrd
            unfold encStr at c0
            have hadd : ∀ W : World, (Op.stringOp .add ⟨#[102, 117, 110, 99, 32]⟩ ⟨d.name.toArray⟩).run Try.prog W = .ok (.string (⟨#[102, 117, 110, 99, 32]⟩ ++ ⟨d.name.toArray⟩)) W := fun W => run_string_add_sum (P := Try.prog) W _ _ (by simp [ByteArray.size]; omega)
            clear hrd hsb hcn Hbk
            rw [hag]
            go_upto_region 15 with fail
            generalize hW7 : wr.alloc (.cells #[.string ⟨d.name.toArray⟩, .int .i64 d.at_, .slice xa d.body.len xc] 47) = w7 at *
            clear hW7
            have Hob := Lib.hid hOb
            have d0 := hqb.cell 0
            have d1 := hqb.cell 1
            have d2 := hqb.cell 2
            have dl := hqb.lt
            clear hOb hqb c0 c1 c2 hp2
            go_upto_region 16 with fail
            rw [show (⟨#[102, 117, 110, 99, 32]⟩ : ByteArray) ++ ⟨d.name.toArray⟩ = ⟨(funcW ++ 32 :: d.name).toArray⟩ from append_list [102, 117, 110, 99, 32] d.name]
            clear hadd
            generalize funcW ++ 32 :: d.name = cw at *
            have hex3 : (⟨s.toArray⟩ : ByteArray).extract d.at_ ((d.at_ : Int) + (cw.length : Int)).toNat = ⟨cw.toArray⟩ := by
              rw [show ((d.at_ : Int) + (cw.length : Int)).toNat = d.at_ + cw.length by omega]
              exact reads_cut Hrd.out
            have hex4 : (⟨s.toArray⟩ : ByteArray).extract d.at_ (d.at_ + cw.length) = ⟨cw.toArray⟩ := reads_cut Hrd.out
            have hbq : (((⟨s.toArray⟩ : ByteArray).extract d.at_ ((d.at_ : Int) + (cw.length : Int)).toNat).toList == cw) = true := by
              rw [hex3, ByteArray.toList_mk]
              exact beq_self_eq_true _
            have hcq : (cw == cw) = true := beq_self_eq_true _
            have hw1 : IntKind.i64.wrap ((d.at_ : Int) + (cw.length : Int)) = (d.at_ : Int) + (cw.length : Int) := Go.IntWalk.i64_in _ (by omega)
            have hp0 : ¬ (d.at_ : Int) < 0 := by omega
            have hp1 : (0 : Int) ≤ (d.at_ : Int) := by omega
            have hp2 : (d.at_ : Int) ≤ (d.at_ : Int) + (cw.length : Int) := by omega
            have hp3 : (d.at_ : Int) + (cw.length : Int) ≤ (s.length : Int) := by omega
            have hp4 : ¬ (s.length : Int) < (d.at_ : Int) + (cw.length : Int) := by omega
            clear hwl
            go_wp2_with fail
            refine (HS.out w7 Hob.out).mono ?_
            rintro e w8 ⟨rfl, hO8⟩
            have HO8 := Lib.hid hO8
            clear hO8
            go_wp2
            go_roundw
            case rel => exact ⟨i + 1, by go_num, hlt, (HO.out.plus Hob.out).plus HO8.out⟩
            case measure => simp [intOf]; omega
          · have hlti : ¬ (i : Int) < 4 := by omega
            go_wp2
            go_ret
            exact ⟨rfl, (HO5.out.plus HOa.out).plus HO.out⟩
      · have hsi : (2000 : Int) < (s.length : Int) := by omega
        have h1 := Hpl.out (by omega)
        rw [h1] at hQ ⊢
        obtain ⟨⟨av, cv, rfl, hcv, -⟩, ⟨al, cl, rfl, hcl, -⟩, ⟨af, cf, rfl, hcf, -⟩⟩ := hQ
        have HO6 := Lib.hid (HO5.out.alloc (.cells #[.slice av 0 cv, .slice al 0 cl, .slice af 0 cf] 30))
        simp only [List.length_nil] at *
        clear h1 hs
        go_wp2
        go_ret
        exact ⟨rfl, HO6.out⟩
    · rw [show decide (sizeM b 0 ≤ 40) = false from by simp [hfb]]
      clear hfb
      go_wp2
      go_ret
      exact ⟨rfl, HO2.out⟩
  · rw [show decide (sizeM a 0 ≤ 40) = false from by simp [hfa]]
    clear hfa
    go_wp2
    go_ret
    exact ⟨rfl, HO1.out⟩

theorem pplaces_row (a0 : Option Addr) (len0 cap0 : Nat) (l0 : RawM) (a1 : Option Addr) (len1 cap1 : Nat) (l1 : RawM) (w : World) (h0 : RawAt w (.slice a0 len0 cap0) l0) (h1 : RawAt w (.slice a1 len1 cap1) l1) :
    Calls Try.prog 8 #[.slice a0 len0 cap0, .slice a1 len1 cap1] w fun e w' => e = .returned (.bool true) ∧ Only [] w w' := pplaces_walk _ _ l0 l1 w h0 h1

end Go.Proofs.Ytonpfmhdefhhmaa
