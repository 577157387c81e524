/-
  The document's Parse.
-/
import Derived.Test.YtildkedplmjdaaaGreatDoorPcG
namespace Go.Proofs.YtildkedplmjdaaaGreatDoor
set_option maxRecDepth 100000
set_option linter.unusedVariables false
open Go.RowKit Go.Sort

theorem dname_two (L : List Tok) (i e : Nat) (hok : ∀ t ∈ L, OkT t) : ∃ (n : List UInt8) (i' er wh : Nat), (∀ W p, PrAt W p L i e 0 0 → Calls Tryz.prog 28 #[.pointer (some ⟨p, 0, none⟩)] W fun r w' => r = .returned (encStr n) ∧ PrAt w' p L i' e er wh ∧ Only [p] W w') ∧
    ((er = 0 ∧ wh = 0 ∧ i < i' ∧ nameF e (L.drop i) = .ok (n, L.drop i')) ∨ (er ≠ 0 ∧ nameF e (L.drop i) = .error (wh, er))) := by
  have h := fun W p => dname_any W p L i e hok
  cases hn : nameF e (L.drop i) with
  | error y =>
    rw [hn] at h
    by_cases hy : y.2 = 7
    · refine ⟨[], i, y.2, y.1, fun W p hW => (h W p hW).mono ?_, .inr ⟨by omega, rfl⟩⟩
      rintro r w' ⟨h1, h2, h3, h4⟩
      exact ⟨h1, h3, h4⟩
    · exact absurd (by
        generalize L.drop i = l at hn
        cases l with
        | nil => simp only [nameF] at hn; injection hn with hn; rw [← hn]
        | cons t r =>
          simp only [nameF] at hn
          split at hn
          · cases hn
          · injection hn with hn; rw [← hn]) hy
  | ok x =>
    obtain ⟨n, r1⟩ := x
    rw [hn] at h
    have hlt : i < L.length := by
      have := nameF_len hn
      rw [List.length_drop] at this
      omega
    have hr : r1 = L.drop (i + 1) := by
      rw [List.drop_eq_getElem_cons hlt, nameF] at hn
      split at hn
      · injection hn with hn; injection hn with _ hn; exact hn.symm
      · cases hn
    refine ⟨n, i + 1, 0, 0, fun W p hW => (h W p hW).mono ?_, .inl ⟨rfl, rfl, by omega, by rw [hr]⟩⟩
    rintro r w' ⟨h1, h2, h3, h4, h5⟩
    exact ⟨h1, h4, h5⟩

set_option maxHeartbeats 8000000 in
theorem dblock_bad (w : World) (p : Nat) (L : List Tok) (i e er wh : Nat) (her : er ≠ 0) (h : PrAt w p L i e er wh) :
    Calls Tryz.prog 29 #[.pointer (some ⟨p, 0, none⟩), .int .i64 0] w fun r w' => r = .returned (.slice none 0 0) ∧ PrAt w' p L i e er wh ∧ Only [p] w w' := by
  have H := Lib.hid h
  have hp := h.lt
  clear h
  have HI := Lib.hid (ris_any w p L i e er wh 2 H.out)
  go_enter Tryz.func29, Tryz.ntmps29
  go_wp2_with fail
  refine HI.out.mono ?_
  rintro r w1 ⟨rfl, hO1⟩
  rw [isM_bad her]
  have HP1 := Lib.hid (H.out.more hO1)
  have HO1 := Lib.hid hO1
  have HF := Lib.hid (rfail_any w1 p L i e er wh 7 HP1.out)
  unfold failM at HF
  simp only [if_neg her] at HF
  clear hO1 HI
  go_wp2_with fail
  refine HF.out.mono ?_
  rintro r w2 ⟨rfl, hP, hO⟩
  have HP2 := Lib.hid hP
  have HO2 := Lib.hid (HO1.out.then hO [p] (by simp) (by simp))
  clear hP hO HF
  go_wp2
  go_ret
  exact ⟨rfl, HP2.out, HO2.out⟩

def DFuncTo (w : World) (p : Nat) (L : List Tok) (i e er wh : Nat) (r : Ending) (w' : World) : Prop :=
  ∃ (v : Value) (b : Blk) (fq : List Nat) (i' er' wh' : Nat), r = .returned v ∧ BlkAt w' v b fq ∧ NewB w w' fq ∧ PrAt w' p L i' e er' wh' ∧ Only [p] w w' ∧
    ((er = 0 ∧ er' = 0 ∧ wh' = 0 ∧ blockF (2 * (L.length - i) + 1) 0 e (L.drop i) = .ok (b, L.drop i')) ∨ (er = 0 ∧ er' ≠ 0 ∧ blockF (2 * (L.length - i) + 1) 0 e (L.drop i) = .error (wh', er')) ∨ (er ≠ 0 ∧ er' = er ∧ wh' = wh))
theorem dblock_two (w : World) (p : Nat) (L : List Tok) (i e er wh : Nat) (hok : ∀ t ∈ L, OkT t) (hw : er = 0 → wh = 0) (h : PrAt w p L i e er wh) :
    Calls Tryz.prog 29 #[.pointer (some ⟨p, 0, none⟩), .int .i64 0] w (DFuncTo w p L i e er wh) := by
  by_cases her : er = 0
  · have hwh := hw her
    subst her hwh
    have hb : Calls Tryz.prog 29 #[.pointer (some ⟨p, 0, none⟩), .int .i64 0] w _ := dblock_any (2 * (L.length - i) + 1) w p L i e 0 hok h (Nat.le_refl _) (by omega)
    refine hb.mono ?_
    cases hX : blockF (2 * (L.length - i) + 1) 0 e (L.drop i) with
    | error y =>
      rintro r w' ⟨i', rfl, h1, h2, h3⟩
      exact ⟨_, .nil, [], i', y.2, y.1, rfl, BlkAt.nil _, NewB.nil _ _, h2, h3, .inr (.inl ⟨rfl, h1, hX⟩)⟩
    | ok x =>
      obtain ⟨b, r1⟩ := x
      rintro r w' ⟨v, fq, i', rfl, h1, h2, rfl, h3, h4⟩
      exact ⟨v, b, fq, i', 0, 0, rfl, h1, h2, h3, h4, .inl ⟨rfl, rfl, rfl, hX⟩⟩
  · refine (dblock_bad w p L i e er wh her h).mono ?_
    rintro r w' ⟨rfl, h1, h2⟩
    exact ⟨_, .nil, [], i, er, wh, rfl, BlkAt.nil _, NewB.nil _ _, h1, h2, .inr (.inr ⟨her, rfl, rfl⟩)⟩

theorem dword_two (W : World) (p : Nat) (L : List Tok) (i e : Nat) {t : Tok} {r : List Tok} (hok : ∀ t ∈ L, OkT t) (hd : L.drop i = t :: r) (s : List UInt8) (hs : s ≠ []) (h : PrAt W p L i e 0 0) :
    Calls Tryz.prog 27 #[.pointer (some ⟨p, 0, none⟩), encStr s] W fun r w' => r = .returned (.bool (decide (t.s = s))) ∧ Only [] W w' := by
  have := dword_any W p L i e 0 0 s h
  rw [word_else hok s hs, hd] at this
  exact this

theorem ret_p3 {fn : Func} {p q r : Tmp} (h : fn.results = #[.cell p 30, .tmp q, .tmp r]) (tmps : Array Value) (w : World) (g0 : Nat) (x0 x1 x2 a b : Value)
    (hp : tmps.getD p undef = .pointer (some ⟨g0, 0, none⟩)) (hq : tmps.getD q undef = a) (hr : tmps.getD r undef = b) (h0 : IsBlk w g0 (.cells #[x0, x1, x2] 30)) :
    (results fn tmps).run Tryz.prog w = .ok (.tuple #[.agg #[x0, x1, x2], a, b]) w := by
  have hp' : tmps[p]?.getD undef = .pointer (some ⟨g0, 0, none⟩) := by simpa using hp
  have hq' : tmps[q]?.getD undef = a := by simpa using hq
  have hr' : tmps[r]?.getD undef = b := by simpa using hr
  have k0 : w.cell? ⟨g0, 0, none⟩ = some x0 := h0.cell 0
  have k1 : w.cell? ⟨g0, 1, none⟩ = some x1 := h0.cell 1
  have k2 : w.cell? ⟨g0, 2, none⟩ = some x2 := h0.cell 2
  simp [results, h, hp', hq', hr', asAddr, k0, k1, k2, go_sem]

set_option maxHeartbeats 16000000 in
theorem dparse_any (w : World) (s : List UInt8) (hs : s.length ≤ 100000) : Calls Tryz.prog 12 #[encStr s] w (ParseTo w (parseM s)) := by
  have hz := IsBlk.made w zeroP
  have hOz := (Only.refl [] w).alloc zeroP
  have HT := Lib.hid (rtokens_any (w.alloc zeroP) s hs)
  have Hok := Lib.hid (tokM_okT s)
  have hw0 : (w.alloc zeroP).heap.size = w.heap.size + 1 := by simp
  unfold zeroP at *
  unfold encStr at *
  go_enter Tryz.func12, Tryz.ntmps12
  go_upto_region 1 with fail
  generalize hW : w.alloc (.cells #[.slice none 0 0, .slice none 0 0, .slice none 0 0] 30) = w0 at *
  clear hW
  have HZ := Lib.hid hz
  have HOz := Lib.hid hOz
  clear hz hOz
  generalize hq2 : w.heap.size = q2 at *
  go_wp2_with fail
  refine HT.out.mono ?_
  rintro r w1 ⟨v, rfl, hT, hO1⟩
  have Hpm : Hid (parseM s = if (tokM s).2.2 ≠ 0 then (⟨[], [], []⟩, (tokM s).2.1, (tokM s).2.2) else match progF (tokM s).1.length s.length (tokM s).1 ⟨[], [], []⟩ with
    | .ok p => (p, 0, 0)
    | .error (i, k) => (⟨[], [], []⟩, i, k)) := Lib.hid rfl
  generalize parseM s = Y at *
  obtain ⟨a, c, rfl, hlc, hr⟩ := ownT_rd hT
  have hll : (tokM s).1.length ≤ 100000 := by
    have := tokM_len s
    omega
  generalize tokM s = M at *
  obtain ⟨L, at0, er0⟩ := M
  simp only at *
  have HZ1 := Lib.hid (HZ.out.only hO1 (by simp))
  have HO1 := Lib.hid (HOz.out.plus hO1)
  have Hr := Lib.hid hr
  clear hT hO1 HZ HOz hr HT
  have z0 := HZ1.out.cell 0
  have z1 := HZ1.out.cell 1
  have z2 := HZ1.out.cell 2
  have fz0 := HZ1.out.notFrozen 0
  have fz1 := HZ1.out.notFrozen 1
  have fz2 := HZ1.out.notFrozen 2
  have hzl := HZ1.out.lt
  by_cases he : er0 = 0
  · subst he
    rw [show ((0 : Nat) : Int) = 0 from rfl]
    have HY := Lib.hid (Hpm.out.trans (if_neg (by simp)))
    have hs1 : (w1.alloc (.cells #[.slice a L.length c, .int .i64 0, .int .i64 s.length, .int .i64 0, .int .i64 0] 68)).heap.size = w1.heap.size + 1 := by simp
    have hs2 : ((w1.alloc (.cells #[.slice a L.length c, .int .i64 0, .int .i64 s.length, .int .i64 0, .int .i64 0] 68)).alloc (.cells #[.slice none 0 0, .slice none 0 0, .slice none 0 0] 30)).heap.size = w1.heap.size + 2 := by simp
    have hpB := (IsBlk.made w1 (.cells #[.slice a L.length c, .int .i64 0, .int .i64 s.length, .int .i64 0, .int .i64 0] 68)).alloc (.cells #[.slice none 0 0, .slice none 0 0, .slice none 0 0] 30)
    have h9 := IsBlk.made (w1.alloc (.cells #[.slice a L.length c, .int .i64 0, .int .i64 s.length, .int .i64 0, .int .i64 0] 68)) (.cells #[.slice none 0 0, .slice none 0 0, .slice none 0 0] 30)
    rw [hs1] at h9
    have hO2 := ((Only.refl [] w1).alloc (.cells #[.slice a L.length c, .int .i64 0, .int .i64 s.length, .int .i64 0, .int .i64 0] 68)).alloc (.cells #[.slice none 0 0, .slice none 0 0, .slice none 0 0] 30)
    have HPb := Lib.hid hpB
    have H9 := Lib.hid h9
    have HO2 := Lib.hid hO2
    have hq21 : q2 < w1.heap.size := hzl
    clear hpB h9 hO2 hs1 Hpm z0 z1 z2 fz0 fz1 fz2 hzl
    go_wp2_with fail
    generalize hW : (w1.alloc (.cells #[.slice a L.length c, .int .i64 0, .int .i64 s.length, .int .i64 0, .int .i64 0] 68)).alloc (.cells #[.slice none 0 0, .slice none 0 0, .slice none 0 0] 30) = wb at *
    clear hW
    generalize hp : w1.heap.size = p at *
    generalize s.length = e at *
    have HP : Hid (PrAt wb p L 0 e 0 0) := Lib.hid ⟨a, c, HPb.out, Nat.zero_le _, by omega, fun h0 => by
      obtain ⟨g, rfl, hg, hra⟩ := Hr.out h0
      exact ⟨g, rfl, by omega, rangeAt_only hra HO2.out (by omega) (by simp)⟩⟩
    have HOb := Lib.hid (HO1.out.plus HO2.out)
    have HZb := Lib.hid (HZ1.out.only HO2.out (by simp))
    have hbase : wb.heap.size = p + 2 := hs2
    have hwq : w.heap.size ≤ q2 := by omega
    clear HPb HO1 HO2 HZ1 Hr hs2 hp hq2 hw0
    generalize hX : progF L.length e L ⟨[], [], []⟩ = X at *
    have HX : Hid (X = progF L.length e (L.drop 0) ⟨[], [], []⟩) := Lib.hid hX.symm
    clear hX
    generalize hq9 : p + 1 = q9 at *
    have h9p : p < q9 := by omega
    have h9b : q9 < wb.heap.size := by omega
    clear hq9 hbase
    go_loopw [] (fun wr => (∃ (P : ProgM) (vv vl vf : Value) (fp : List Nat) (i k : Nat), GrowP wb wr vv vl vf P fp ∧ IsBlk wr q9 (.cells #[vv, vl, vf] 30) ∧ IsBlk wr q2 (.cells #[.slice none 0 0, .slice none 0 0, .slice none 0 0] 30) ∧ PrAt wr p L i e 0 0 ∧ Only [] w wr ∧ wb.heap.size ≤ wr.heap.size ∧ L.length - i ≤ k ∧ (P.vars.length + (L.length - i) ≤ 1000000 ∧ P.locks.length + (L.length - i) ≤ 1000000 ∧ P.funcs.length + (L.length - i) ≤ 1000000) ∧ Hid (X = progF k e (L.drop i) P)) ∨ ∃ (i er wh : Nat), er ≠ 0 ∧ IsBlk wr q2 (.cells #[.slice none 0 0, .slice none 0 0, .slice none 0 0] 30) ∧ PrAt wr p L i e er wh ∧ Only [] w wr ∧ Hid (X = .error (wh, er))) (fun wr => prM wr p L.length)
    case atStart => exact .inl ⟨⟨[], [], []⟩, _, _, _, [], 0, L.length, GrowP.nil _ _, H9.out, HZb.out, HP.out, HOb.out, Nat.le_refl _, by omega, by simp; omega, HX⟩
    case round =>
      clear H9 HZb HP HOb HX
      rcases hrel with ⟨P, vv, vl, vf, fp, i, k, hg, hB, hB0, hP, hO, hs1, hk, ⟨ha1, ha2, ha3⟩, hX⟩ | ⟨i, er, wh, her, hB0, hP, hO, hX⟩
      · obtain ⟨av, cv, rfl⟩ := owns_slice hg.vars
        obtain ⟨al, cl, rfl⟩ := owns_slice hg.locks
        obtain ⟨af, cf, rfl⟩ : ∃ a c, vf = .slice a P.funcs.length c := by obtain ⟨xs, h3, _⟩ := hg.funcs; exact owns_slice h3
        have HM := Lib.hid (hP.prM L.length)
        obtain ⟨c1, c3, -, -, hpl, -⟩ := hP.open
        have Hg := Lib.hid hg
        have HB := Lib.hid hB
        have HB0 := Lib.hid hB0
        have HP := Lib.hid hP
        have HOr := Lib.hid hO
        clear hg hB hB0 hP hO
        by_cases hlt : i < L.length
        · have hlti : (i : Int) < (L.length : Int) := by omega
          obtain ⟨hdrop, hget⟩ := drop_next e hlt
          obtain ⟨k, rfl⟩ : ∃ g, k = g + 1 := ⟨k - 1, by omega⟩
          have HA := Lib.hid (rat_any wr p L i e 0 0 HP.out)
          generalize nextT (L.drop i) e = t at *
          have HWv := Lib.hid (fun W hW => (dword_two W p L i e Hok.out hdrop varW (by decide) hW : Calls Tryz.prog _ #[.pointer (some ⟨p, 0, none⟩), .string ⟨#[118, 97, 114]⟩] W _))
          have HWl := Lib.hid (fun W hW => (dword_two W p L i e Hok.out hdrop lockW (by decide) hW : Calls Tryz.prog _ #[.pointer (some ⟨p, 0, none⟩), .string ⟨#[108, 111, 99, 107]⟩] W _))
          have HWf := Lib.hid (fun W hW => (dword_two W p L i e Hok.out hdrop funcW (by decide) hW : Calls Tryz.prog _ #[.pointer (some ⟨p, 0, none⟩), .string ⟨#[102, 117, 110, 99]⟩] W _))
          have Hat : Hid ((nextT (L.drop i) e).at_ = t.at_) := Lib.hid (by rw [hdrop]; rfl)
          rw [hdrop] at hX
          clear hdrop hget
          go_wp2_with fail
          refine HA.out.mono ?_
          rintro r w3 ⟨rfl, hO3⟩
          have HO3 := Lib.hid hO3
          clear hO3 HA c1 c3
          go_wp2_with fail
          refine (HWv.out w3 (HP.out.more HO3.out)).mono ?_
          rintro r w4 ⟨rfl, hO4⟩
          have HO4 := Lib.hid (HO3.out.plus hO4)
          clear hO4 HO3 HWv
          obtain ⟨n, i', er, wh, hNm, hcs⟩ := dname_two L (i + 1) e Hok.out
          have HNm := Lib.hid hNm
          have Hcs := Lib.hid hcs
          clear hNm hcs
          by_cases h1 : t.s = varW
          · rw [show decide (t.s = varW) = true from by simp [h1]]
            have Herr := Lib.hid (fun (y : Nat × Nat) (h : nameF e (L.drop (i + 1)) = .error y) => hX.out.trans (prog_var_err h1 h))
            have Hone := Lib.hid (fun (n : List UInt8) (r1 : List Tok) (h : nameF e (L.drop (i + 1)) = .ok (n, r1)) => hX.out.trans (prog_var h1 h))
            clear hX h1 HWl HWf
            go_upto_region 10 with fail
            have hP4 := HP.out.more HO4.out
            obtain ⟨c1, -, -, g1, hpW, -⟩ := hP4.open
            have hw1 : IntKind.i64.wrap ((i : Int) + 1) = (i : Int) + 1 := Go.IntWalk.i64_in _ (by omega)
            obtain ⟨hP5, hO5⟩ := hP4.step hlt
            have hO45 := HO4.out.then hO5 [p] (by simp) (by simp)
            have HP5 := Lib.hid hP5
            have Hg5 := Lib.hid (Hg.out.keep hO45 (by simp; omega))
            have HB5 := Lib.hid (HB.out.only hO45 (by simp; omega))
            have HB05 := Lib.hid (HB0.out.only hO45 (by simp; omega))
            have Hu5 := Lib.hid hO45
            have HO5 := Lib.hid (HOr.out.then hO45 [] (by simp) (by simp; omega))
            have hs5 := Nat.le_trans hs1 hO45.size
            clear hP4 hP5 hO5 hO45 HP HO4
            go_upto_region 11 with fail
            generalize hW5 : w4.setCell ⟨p, 1, none⟩ (.int .i64 ((i : Int) + 1)) = w5 at *
            clear hW5 c1 g1 hw1 hpW
            have y0 := HB5.out.cell 0
            have y1 := HB5.out.cell 1
            have y2 := HB5.out.cell 2
            have f0 := HB5.out.notFrozen 0
            have f1 := HB5.out.notFrozen 1
            have f2 := HB5.out.notFrozen 2
            have hb9 := HB5.out.lt
            have hvo : ∀ k ∈ ownL (.slice av P.vars.length cv), wb.heap.size ≤ k ∧ k < w5.heap.size := fun k hk => World.ownsRow.lt Hg5.out.vars k (mem_ownL.1 hk)
            have hvp : ∀ k ∈ ownL (.slice av P.vars.length cv), p < k := fun k hk => by have := (hvo k hk).1; omega
            have hn1 : q9 ∉ p :: ownL (.slice av P.vars.length cv) := fun hm => by
              rcases List.mem_cons.1 hm with h | h
              · omega
              · have := (hvo _ h).1; omega
            have hn2 : q2 ∉ p :: ownL (.slice av P.vars.length cv) := fun hm => by
              rcases List.mem_cons.1 hm with h | h
              · omega
              · have := (hvo _ h).1; omega
            have hac : P.vars.length ≤ 1000000 := by omega
            refine wp_region_stabP (P := Tryz.prog) 8 (by kernel_rfl) (by kernel_rfl) (fun i => i == 3 || i == 7) (R1P p (ownL (.slice av P.vars.length cv)) 3 7) (Only (p :: (ownL (.slice av P.vars.length cv)))) (RkP p (ownL (.slice av P.vars.length cv)) 3 7) (Only.refl _ _) (fun k => R1P.refl k) (fun _ u v h k => h.then k.big _ (fun i hi => .inl hi) (fun i hi => .inl hi)) (fun _ _ u v hne h k => h.step k hne)
              (SP.at ([SP.is (.pointer (some ⟨q9, 0, none⟩)),
               SP.is (.slice av P.vars.length cv),
               SP.is (.pointer (some ⟨p, 0, none⟩)),
               (⟨fun v W => v = .string ⟨n.toArray⟩ ∧ PrAt W p L i' e er wh, fun _ _ _ _ h => h.elim⟩ : SP (fun _ _ : World => False)),
               SP.is (.int .i64 t.at_),
               SP.is (.agg #[.string ⟨n.toArray⟩, .int .i64 t.at_]),
               ⟨fun v W => ∃ g, v = .slice (some ⟨g, 0, none⟩) 1 1 ∧ IsBlk W g (.cells #[.string ⟨n.toArray⟩, .int .i64 t.at_] 59) ∧ w5.heap.size ≤ g, fun _ _ _ _ h => h.elim⟩,
               ⟨fun v W => ∃ a c, v = .slice a (P.vars ++ [(⟨n, t.at_⟩ : DeclM)]).length c ∧ W.ownsRow wb.heap.size 59 2 (.slice a (P.vars ++ [(⟨n, t.at_⟩ : DeclM)]).length c) (P.vars ++ [(⟨n, t.at_⟩ : DeclM)]).length (dcells (P.vars ++ [(⟨n, t.at_⟩ : DeclM)])) ∧ ((Value.slice a (P.vars ++ [(⟨n, t.at_⟩ : DeclM)]).length c).ownBlock = (Value.slice av P.vars.length cv).ownBlock ∨ ∃ g, (Value.slice a (P.vars ++ [(⟨n, t.at_⟩ : DeclM)]).length c).ownBlock = some g ∧ w5.heap.size ≤ g), fun _ _ _ _ h => h.elim⟩] : List (SP (fun _ _ : World => False)))) (fun k i v u u' hk hi hne hneed hφ hR => ?_) ?_ ?_
            · have hc : i = 0 ∨ i = 1 ∨ i = 2 ∨ i = 3 ∨ i = 4 ∨ i = 5 ∨ i = 6 ∨ i = 7 := by omega
              rcases hc with rfl | rfl | rfl | rfl | rfl | rfl | rfl | rfl
              · exact hφ
              · exact hφ
              · exact hφ
              · exact ⟨hφ.1, hφ.2.keep (hR.pre (Ne.symm hne)) hvp⟩
              · exact hφ
              · exact hφ
              · have hk7 : k ≠ 7 := fun e => by
                  subst e
                  rcases hneed with h | ⟨j, hj, hj8, hd⟩
                  · cases h
                  · have : j = 0 ∨ j = 1 ∨ j = 2 ∨ j = 3 ∨ j = 4 ∨ j = 5 ∨ j = 6 := by omega
                    rcases this with rfl | rfl | rfl | rfl | rfl | rfl | rfl <;> exact Bool.noConfusion (Eq.trans hd.symm (c := false) (by kernel_rfl))
                obtain ⟨g, hg1, hg2, hg3⟩ := hφ
                exact ⟨g, hg1, hg2.only (hR.oth hk7) (by simp; omega), hg3⟩
              · obtain ⟨a, c, hg1, hg2, hg3⟩ := hφ
                exact ⟨a, c, hg1, owns_keep hg2 (hR.oth (Ne.symm hne)) (by simp; omega), hg3⟩
            · simp only [List.take_succ_cons, List.take_zero]
              refine StepsOK.cons ?_ (StepsOK.cons ?_ (StepsOK.cons ?_ (StepsOK.cons ?_ (StepsOK.cons ?_ (StepsOK.cons ?_ (StepsOK.cons ?_ (StepsOK.cons ?_ StepsOK.nil)))))))
              · intro a W L' N hR hold hφ hcl hkp hd K hK
                have e9 := hold 9 (by kernel_rfl)
                clear hold hφ hcl hkp hd
                rw [if_pos (by rfl)]
                go_simp
                exact hK _ _ (Only.refl _ _) rfl
              · intro a W L' N hR hold hφ hcl hkp hd K hK
                have e56 := got hφ (hd 0 (by kernel_rfl)) rfl rfl rfl
                have hld : W.cell? ⟨q9, 0, none⟩ = some (.slice av P.vars.length cv) := ((((Only.refl _ w5).drew).then hR (p :: (ownL (.slice av P.vars.length cv))) (fun i hi => .inl hi) (fun i hi => .inl hi)).cell (p := ⟨q9, _, none⟩) hb9 hn1).trans y0
                clear hold hφ hcl hkp hd
                rw [if_pos (by rfl)]
                go_simp
                exact hK _ _ (Only.refl _ _) rfl
              · intro a W L' N hR hold hφ hcl hkp hd K hK
                have e8 := hold 8 (by kernel_rfl)
                clear hold hφ hcl hkp hd
                rw [if_pos (by rfl)]
                go_simp
                exact hK _ _ (Only.refl _ _) rfl
              · intro a W L' N hR hold hφ hcl hkp hd K hK
                have e58 := got hφ (hd 2 (by kernel_rfl)) rfl rfl rfl
                have hpre := (hcl.2.2.2.2 3 hcl.2.1).call
                clear hold hφ hcl hkp hd
                rw [if_pos (by rfl)]
                go_simp
                refine (HNm.out W p ((HP5.out.more ((Only.refl _ w5).drew)).keep hpre hvp)).mono ?_
                rintro r0 w6 ⟨rfl, hR6, hO6⟩
                exact hK _ _ hO6 ⟨rfl, hR6⟩
              · intro a W L' N hR hold hφ hcl hkp hd K hK
                have e10 := hold 10 (by kernel_rfl)
                clear hold hφ hcl hkp hd
                rw [if_pos (by rfl)]
                go_simp
                exact hK _ _ (Only.refl _ _) rfl
              · intro a W L' N hR hold hφ hcl hkp hd K hK
                have e60 := got hφ (hd 4 (by kernel_rfl)) rfl rfl rfl
                obtain ⟨u3, e59, p3, s3⟩ := gotP hφ (hd 3 (by kernel_rfl)) rfl rfl rfl
                have p3 : u3 = .string ⟨n.toArray⟩ := p3
                subst p3
                clear hold hφ hcl hkp hd
                rw [if_pos (by rfl)]
                go_simp
                exact hK _ _ (Only.refl _ _) rfl
              · intro a W L' N hR hold hφ hcl hkp hd K hK
                have e61 := got hφ (hd 5 (by kernel_rfl)) rfl rfl rfl
                have hsz := hR.size
                clear hold hφ hcl hkp hd
                rw [if_pos (by rfl)]
                go_simp
                exact hK _ _ ((Only.refl _ _).alloc _) ⟨_, rfl, IsBlk.made W _, hsz⟩
              · intro a W L' N hR hold hφ hcl hkp hd K hK
                have e57 := got hφ (hd 1 (by kernel_rfl)) rfl rfl rfl
                obtain ⟨u6, e62, g29, p29, b29, s29⟩ := gotP hφ (hd 6 (by kernel_rfl)) rfl rfl rfl
                have p29 : u6 = .slice (some ⟨g29, 0, none⟩) 1 1 := p29
                subst p29
                have hpr7 := (hcl.2.2.2.2 7 hcl.2.1).app (by decide)
                have hpre := (((Only.refl _ w5).drew).then hR (p :: (ownL (.slice av P.vars.length cv))) (fun i hi => .inl hi) (fun i hi => .inl hi))
                have hsz := hpre.size
                clear hold hφ hcl hkp hd
                rw [if_pos (by rfl)]
                refine wp_append_d _ _ rfl wb.heap.size (.slice av P.vars.length cv) P.vars (by simp [Act.eval, e57]) (owns_keep Hg5.out.vars (((Only.refl [] w5).drew).then hpr7 [p] (by simp) (by simp)) (by simp; omega)) g29 1 ⟨n, t.at_⟩ (by simp [Act.eval, e62]) (b29.cell 0) (b29.cell 1) hac (Nat.le_trans hs5 hsz) ?_
                intro a7 c7 w7 h7 hO7 hb7
                exact hK _ _ hO7 ⟨a7, c7, rfl, h7, hb7.imp id (fun h => ⟨_, h, hsz⟩)⟩
            · intro us W hO' hus
              obtain ⟨p3, hRW⟩ := hus 3 _ 59 (by omega) rfl rfl rfl
              obtain ⟨a8, c8, p7, h8, hb8⟩ := hus 7 _ 63 (by omega) rfl rfl rfl
              clear hus
              simp only [List.take_succ_cons, List.take_zero, List.drop_succ_cons, List.drop_zero, fillAct, Act.put, List.setIfInBounds_toArray, List.set_cons_zero, List.set_cons_succ, Nat.reduceAdd, p7]
              clear p3 p7
              have hOW := ((Only.refl _ w5).drew).then hO' (p :: (ownL (.slice av P.vars.length cv))) (fun i hi => .inl hi) (fun i hi => .inl hi)
              have hGW := Hg5.out.var2 (by omega) h8 hOW hb8
              have hBW := HB5.out.only hOW hn1
              have hB0W := HB05.out.only hOW hn2
              have hOwp : Only [] w W := HO5.out.then hOW [] (by simp) (fun i hi => by
                rcases List.mem_cons.1 hi with h | h
                · exact .inr (by omega)
                · exact .inr (by have := (hvo i h).1; omega))
              have o9 : Only [q9] W (W.setCell ⟨q9, 0, none⟩ (.slice a8 (P.vars ++ [(⟨n, t.at_⟩ : DeclM)]).length c8)) := (Only.refl _ _).setCell (p := ⟨q9, 0, none⟩) (.inl (by simp)) _
              have Hfin := Lib.hid (And.intro (hGW.keep o9 (by simp; omega)) (And.intro (IsBlk.put hBW 0 (.slice a8 (P.vars ++ [(⟨n, t.at_⟩ : DeclM)]).length c8)) (And.intro (hB0W.only o9 (by simp; omega)) (And.intro (hRW.keep o9 (by simp; omega)) (And.intro (hOwp.then o9 [] (by simp) (by simp; omega)) (Nat.le_trans hs5 (Nat.le_trans hOW.size o9.size)))))))
              simp only [List.length_append, List.length_cons, List.length_nil, Nat.zero_add, List.setIfInBounds_toArray, List.set_cons_zero] at Hfin
              have k9 := hBW.cell 0
              have f9 := hBW.notFrozen 0
              have hl9 := hBW.lt
              clear hO' hOW hGW hBW hB0W hOwp o9 h8 hb8 HP5 Hg5 HB5 HB05 HO5 hRW hvo hvp hn1 hn2
              clear y0 y1 y2 f0 f1 f2
              go_wp2
              go_roundw
              case rel =>
                obtain ⟨x1, x2, x3, x4, x5, x6⟩ := Hfin.out
                rcases Hcs.out with ⟨rfl, rfl, hi2, h2⟩ | ⟨h1, h2⟩
                · exact .inl ⟨{ P with vars := P.vars ++ [⟨n, t.at_⟩] }, _, _, _, fp, i', k, x1, x2, x3, x4, x5, x6, by omega, ⟨by first | omega | (simp; omega), by first | omega | (simp; omega), by first | omega | (simp; omega)⟩, Lib.hid (Hone.out n _ h2)⟩
                · exact .inr ⟨i', er, wh, h1, x3, x4, x5, Lib.hid (Herr.out _ h2)⟩
              case measure =>
                obtain ⟨x1, x2, x3, x4, x5, x6⟩ := Hfin.out
                rw [x4.prM, HM.out]
                rcases Hcs.out with ⟨rfl, rfl, hi2, h2⟩ | ⟨h1, h2⟩
                · simp only [if_true]; omega
                · rw [if_neg h1]; simp only [if_true]; omega
          · rw [show decide (t.s = varW) = false from by simp [h1]]
            go_wp2_with fail
            refine (HWl.out w4 (HP.out.more HO4.out)).mono ?_
            rintro r w41 ⟨rfl, hO41⟩
            have HO4 := Lib.hid (HO4.out.plus hO41)
            clear hO41 HWl
            by_cases h2 : t.s = lockW
            · rw [show decide (t.s = lockW) = true from by simp [h2]]
              have Herr := Lib.hid (fun (y : Nat × Nat) (h : nameF e (L.drop (i + 1)) = .error y) => hX.out.trans (prog_lock_err h1 h2 h))
              have Hone := Lib.hid (fun (n : List UInt8) (r1 : List Tok) (h : nameF e (L.drop (i + 1)) = .ok (n, r1)) => hX.out.trans (prog_lock h1 h2 h))
              clear hX h1 h2 HWf
              go_upto_region 13 with fail
              have hP4 := HP.out.more HO4.out
              obtain ⟨c1, -, -, g1, hpW, -⟩ := hP4.open
              have hw1 : IntKind.i64.wrap ((i : Int) + 1) = (i : Int) + 1 := Go.IntWalk.i64_in _ (by omega)
              obtain ⟨hP5, hO5⟩ := hP4.step hlt
              have hO45 := HO4.out.then hO5 [p] (by simp) (by simp)
              have HP5 := Lib.hid hP5
              have Hg5 := Lib.hid (Hg.out.keep hO45 (by simp; omega))
              have HB5 := Lib.hid (HB.out.only hO45 (by simp; omega))
              have HB05 := Lib.hid (HB0.out.only hO45 (by simp; omega))
              have Hu5 := Lib.hid hO45
              have HO5 := Lib.hid (HOr.out.then hO45 [] (by simp) (by simp; omega))
              have hs5 := Nat.le_trans hs1 hO45.size
              clear hP4 hP5 hO5 hO45 HP HO4
              go_upto_region 14 with fail
              generalize hW5 : w41.setCell ⟨p, 1, none⟩ (.int .i64 ((i : Int) + 1)) = w5 at *
              clear hW5 c1 g1 hw1 hpW
              have y0 := HB5.out.cell 0
              have y1 := HB5.out.cell 1
              have y2 := HB5.out.cell 2
              have f0 := HB5.out.notFrozen 0
              have f1 := HB5.out.notFrozen 1
              have f2 := HB5.out.notFrozen 2
              have hb9 := HB5.out.lt
              have hvo : ∀ k ∈ ownL (.slice al P.locks.length cl), wb.heap.size ≤ k ∧ k < w5.heap.size := fun k hk => World.ownsRow.lt Hg5.out.locks k (mem_ownL.1 hk)
              have hvp : ∀ k ∈ ownL (.slice al P.locks.length cl), p < k := fun k hk => by have := (hvo k hk).1; omega
              have hn1 : q9 ∉ p :: ownL (.slice al P.locks.length cl) := fun hm => by
                rcases List.mem_cons.1 hm with h | h
                · omega
                · have := (hvo _ h).1; omega
              have hn2 : q2 ∉ p :: ownL (.slice al P.locks.length cl) := fun hm => by
                rcases List.mem_cons.1 hm with h | h
                · omega
                · have := (hvo _ h).1; omega
              have hac : P.locks.length ≤ 1000000 := by omega
              refine wp_region_stabP (P := Tryz.prog) 8 (by kernel_rfl) (by kernel_rfl) (fun i => i == 3 || i == 7) (R1P p (ownL (.slice al P.locks.length cl)) 3 7) (Only (p :: (ownL (.slice al P.locks.length cl)))) (RkP p (ownL (.slice al P.locks.length cl)) 3 7) (Only.refl _ _) (fun k => R1P.refl k) (fun _ u v h k => h.then k.big _ (fun i hi => .inl hi) (fun i hi => .inl hi)) (fun _ _ u v hne h k => h.step k hne)
                (SP.at ([SP.is (.pointer (some ⟨q9, 1, none⟩)),
                 SP.is (.slice al P.locks.length cl),
                 SP.is (.pointer (some ⟨p, 0, none⟩)),
                 (⟨fun v W => v = .string ⟨n.toArray⟩ ∧ PrAt W p L i' e er wh, fun _ _ _ _ h => h.elim⟩ : SP (fun _ _ : World => False)),
                 SP.is (.int .i64 t.at_),
                 SP.is (.agg #[.string ⟨n.toArray⟩, .int .i64 t.at_]),
                 ⟨fun v W => ∃ g, v = .slice (some ⟨g, 0, none⟩) 1 1 ∧ IsBlk W g (.cells #[.string ⟨n.toArray⟩, .int .i64 t.at_] 59) ∧ w5.heap.size ≤ g, fun _ _ _ _ h => h.elim⟩,
                 ⟨fun v W => ∃ a c, v = .slice a (P.locks ++ [(⟨n, t.at_⟩ : DeclM)]).length c ∧ W.ownsRow wb.heap.size 59 2 (.slice a (P.locks ++ [(⟨n, t.at_⟩ : DeclM)]).length c) (P.locks ++ [(⟨n, t.at_⟩ : DeclM)]).length (dcells (P.locks ++ [(⟨n, t.at_⟩ : DeclM)])) ∧ ((Value.slice a (P.locks ++ [(⟨n, t.at_⟩ : DeclM)]).length c).ownBlock = (Value.slice al P.locks.length cl).ownBlock ∨ ∃ g, (Value.slice a (P.locks ++ [(⟨n, t.at_⟩ : DeclM)]).length c).ownBlock = some g ∧ w5.heap.size ≤ g), fun _ _ _ _ h => h.elim⟩] : List (SP (fun _ _ : World => False)))) (fun k i v u u' hk hi hne hneed hφ hR => ?_) ?_ ?_
              · have hc : i = 0 ∨ i = 1 ∨ i = 2 ∨ i = 3 ∨ i = 4 ∨ i = 5 ∨ i = 6 ∨ i = 7 := by omega
                rcases hc with rfl | rfl | rfl | rfl | rfl | rfl | rfl | rfl
                · exact hφ
                · exact hφ
                · exact hφ
                · exact ⟨hφ.1, hφ.2.keep (hR.pre (Ne.symm hne)) hvp⟩
                · exact hφ
                · exact hφ
                · have hk7 : k ≠ 7 := fun e => by
                    subst e
                    rcases hneed with h | ⟨j, hj, hj8, hd⟩
                    · cases h
                    · have : j = 0 ∨ j = 1 ∨ j = 2 ∨ j = 3 ∨ j = 4 ∨ j = 5 ∨ j = 6 := by omega
                      rcases this with rfl | rfl | rfl | rfl | rfl | rfl | rfl <;> exact Bool.noConfusion (Eq.trans hd.symm (c := false) (by kernel_rfl))
                  obtain ⟨g, hg1, hg2, hg3⟩ := hφ
                  exact ⟨g, hg1, hg2.only (hR.oth hk7) (by simp; omega), hg3⟩
                · obtain ⟨a, c, hg1, hg2, hg3⟩ := hφ
                  exact ⟨a, c, hg1, owns_keep hg2 (hR.oth (Ne.symm hne)) (by simp; omega), hg3⟩
              · simp only [List.take_succ_cons, List.take_zero]
                refine StepsOK.cons ?_ (StepsOK.cons ?_ (StepsOK.cons ?_ (StepsOK.cons ?_ (StepsOK.cons ?_ (StepsOK.cons ?_ (StepsOK.cons ?_ (StepsOK.cons ?_ StepsOK.nil)))))))
                · intro a W L' N hR hold hφ hcl hkp hd K hK
                  have e9 := hold 9 (by kernel_rfl)
                  clear hold hφ hcl hkp hd
                  rw [if_pos (by rfl)]
                  go_simp
                  exact hK _ _ (Only.refl _ _) rfl
                · intro a W L' N hR hold hφ hcl hkp hd K hK
                  have e75 := got hφ (hd 0 (by kernel_rfl)) rfl rfl rfl
                  have hld : W.cell? ⟨q9, 1, none⟩ = some (.slice al P.locks.length cl) := ((((Only.refl _ w5).drew).then hR (p :: (ownL (.slice al P.locks.length cl))) (fun i hi => .inl hi) (fun i hi => .inl hi)).cell (p := ⟨q9, _, none⟩) hb9 hn1).trans y1
                  clear hold hφ hcl hkp hd
                  rw [if_pos (by rfl)]
                  go_simp
                  exact hK _ _ (Only.refl _ _) rfl
                · intro a W L' N hR hold hφ hcl hkp hd K hK
                  have e8 := hold 8 (by kernel_rfl)
                  clear hold hφ hcl hkp hd
                  rw [if_pos (by rfl)]
                  go_simp
                  exact hK _ _ (Only.refl _ _) rfl
                · intro a W L' N hR hold hφ hcl hkp hd K hK
                  have e77 := got hφ (hd 2 (by kernel_rfl)) rfl rfl rfl
                  have hpre := (hcl.2.2.2.2 3 hcl.2.1).call
                  clear hold hφ hcl hkp hd
                  rw [if_pos (by rfl)]
                  go_simp
                  refine (HNm.out W p ((HP5.out.more ((Only.refl _ w5).drew)).keep hpre hvp)).mono ?_
                  rintro r0 w6 ⟨rfl, hR6, hO6⟩
                  exact hK _ _ hO6 ⟨rfl, hR6⟩
                · intro a W L' N hR hold hφ hcl hkp hd K hK
                  have e10 := hold 10 (by kernel_rfl)
                  clear hold hφ hcl hkp hd
                  rw [if_pos (by rfl)]
                  go_simp
                  exact hK _ _ (Only.refl _ _) rfl
                · intro a W L' N hR hold hφ hcl hkp hd K hK
                  have e79 := got hφ (hd 4 (by kernel_rfl)) rfl rfl rfl
                  obtain ⟨u3, e78, p3, s3⟩ := gotP hφ (hd 3 (by kernel_rfl)) rfl rfl rfl
                  have p3 : u3 = .string ⟨n.toArray⟩ := p3
                  subst p3
                  clear hold hφ hcl hkp hd
                  rw [if_pos (by rfl)]
                  go_simp
                  exact hK _ _ (Only.refl _ _) rfl
                · intro a W L' N hR hold hφ hcl hkp hd K hK
                  have e80 := got hφ (hd 5 (by kernel_rfl)) rfl rfl rfl
                  have hsz := hR.size
                  clear hold hφ hcl hkp hd
                  rw [if_pos (by rfl)]
                  go_simp
                  exact hK _ _ ((Only.refl _ _).alloc _) ⟨_, rfl, IsBlk.made W _, hsz⟩
                · intro a W L' N hR hold hφ hcl hkp hd K hK
                  have e76 := got hφ (hd 1 (by kernel_rfl)) rfl rfl rfl
                  obtain ⟨u6, e81, g29, p29, b29, s29⟩ := gotP hφ (hd 6 (by kernel_rfl)) rfl rfl rfl
                  have p29 : u6 = .slice (some ⟨g29, 0, none⟩) 1 1 := p29
                  subst p29
                  have hpr7 := (hcl.2.2.2.2 7 hcl.2.1).app (by decide)
                  have hpre := (((Only.refl _ w5).drew).then hR (p :: (ownL (.slice al P.locks.length cl))) (fun i hi => .inl hi) (fun i hi => .inl hi))
                  have hsz := hpre.size
                  clear hold hφ hcl hkp hd
                  rw [if_pos (by rfl)]
                  refine wp_append_d _ _ rfl wb.heap.size (.slice al P.locks.length cl) P.locks (by simp [Act.eval, e76]) (owns_keep Hg5.out.locks (((Only.refl [] w5).drew).then hpr7 [p] (by simp) (by simp)) (by simp; omega)) g29 1 ⟨n, t.at_⟩ (by simp [Act.eval, e81]) (b29.cell 0) (b29.cell 1) hac (Nat.le_trans hs5 hsz) ?_
                  intro a7 c7 w7 h7 hO7 hb7
                  exact hK _ _ hO7 ⟨a7, c7, rfl, h7, hb7.imp id (fun h => ⟨_, h, hsz⟩)⟩
              · intro us W hO' hus
                obtain ⟨p3, hRW⟩ := hus 3 _ 78 (by omega) rfl rfl rfl
                obtain ⟨a8, c8, p7, h8, hb8⟩ := hus 7 _ 82 (by omega) rfl rfl rfl
                clear hus
                simp only [List.take_succ_cons, List.take_zero, List.drop_succ_cons, List.drop_zero, fillAct, Act.put, List.setIfInBounds_toArray, List.set_cons_zero, List.set_cons_succ, Nat.reduceAdd, p7]
                clear p3 p7
                have hOW := ((Only.refl _ w5).drew).then hO' (p :: (ownL (.slice al P.locks.length cl))) (fun i hi => .inl hi) (fun i hi => .inl hi)
                have hGW := Hg5.out.lock2 (by omega) h8 hOW hb8
                have hBW := HB5.out.only hOW hn1
                have hB0W := HB05.out.only hOW hn2
                have hOwp : Only [] w W := HO5.out.then hOW [] (by simp) (fun i hi => by
                  rcases List.mem_cons.1 hi with h | h
                  · exact .inr (by omega)
                  · exact .inr (by have := (hvo i h).1; omega))
                have o9 : Only [q9] W (W.setCell ⟨q9, 1, none⟩ (.slice a8 (P.locks ++ [(⟨n, t.at_⟩ : DeclM)]).length c8)) := (Only.refl _ _).setCell (p := ⟨q9, 1, none⟩) (.inl (by simp)) _
                have Hfin := Lib.hid (And.intro (hGW.keep o9 (by simp; omega)) (And.intro (IsBlk.put hBW 1 (.slice a8 (P.locks ++ [(⟨n, t.at_⟩ : DeclM)]).length c8)) (And.intro (hB0W.only o9 (by simp; omega)) (And.intro (hRW.keep o9 (by simp; omega)) (And.intro (hOwp.then o9 [] (by simp) (by simp; omega)) (Nat.le_trans hs5 (Nat.le_trans hOW.size o9.size)))))))
                simp only [List.length_append, List.length_cons, List.length_nil, Nat.zero_add, List.setIfInBounds_toArray, List.set_cons_zero, List.set_cons_succ] at Hfin
                have k9 := hBW.cell 1
                have f9 := hBW.notFrozen 1
                have hl9 := hBW.lt
                clear hO' hOW hGW hBW hB0W hOwp o9 h8 hb8 HP5 Hg5 HB5 HB05 HO5 hRW hvo hvp hn1 hn2
                clear y0 y1 y2 f0 f1 f2
                go_wp2
                go_roundw
                case rel =>
                  obtain ⟨x1, x2, x3, x4, x5, x6⟩ := Hfin.out
                  rcases Hcs.out with ⟨rfl, rfl, hi2, h2⟩ | ⟨h1, h2⟩
                  · exact .inl ⟨{ P with locks := P.locks ++ [⟨n, t.at_⟩] }, _, _, _, fp, i', k, x1, x2, x3, x4, x5, x6, by omega, ⟨by first | omega | (simp; omega), by first | omega | (simp; omega), by first | omega | (simp; omega)⟩, Lib.hid (Hone.out n _ h2)⟩
                  · exact .inr ⟨i', er, wh, h1, x3, x4, x5, Lib.hid (Herr.out _ h2)⟩
                case measure =>
                  obtain ⟨x1, x2, x3, x4, x5, x6⟩ := Hfin.out
                  rw [x4.prM, HM.out]
                  rcases Hcs.out with ⟨rfl, rfl, hi2, h2⟩ | ⟨h1, h2⟩
                  · simp only [if_true]; omega
                  · rw [if_neg h1]; simp only [if_true]; omega
            · rw [show decide (t.s = lockW) = false from by simp [h2]]
              go_wp2_with fail
              refine (HWf.out w41 (HP.out.more HO4.out)).mono ?_
              rintro r w42 ⟨rfl, hO42⟩
              have HO4 := Lib.hid (HO4.out.plus hO42)
              clear hO42 HWf
              by_cases h3 : t.s = funcW
              · rw [show decide (t.s = funcW) = true from by simp [h3]]
                have Herr := Lib.hid (fun (y : Nat × Nat) (h : nameF e (L.drop (i + 1)) = .error y) => hX.out.trans (prog_func_err h1 h2 h3 h))
                have Hbad := Lib.hid (fun (n : List UInt8) (r1 : List Tok) (y : Nat × Nat) (h : nameF e (L.drop (i + 1)) = .ok (n, r1)) (hb : blockF (2 * r1.length + 1) 0 e r1 = .error y) => hX.out.trans (prog_func_bad h1 h2 h3 h hb))
                have Hone := Lib.hid (fun (n : List UInt8) (r1 r2 : List Tok) (b : Blk) (h : nameF e (L.drop (i + 1)) = .ok (n, r1)) (hb : blockF (2 * r1.length + 1) 0 e r1 = .ok (b, r2)) => hX.out.trans (prog_func h1 h2 h3 h hb))
                clear hX h1 h2 h3
                go_upto_region 16 with fail
                have hP4 := HP.out.more HO4.out
                obtain ⟨c1, -, -, g1, hpW, -⟩ := hP4.open
                have hw1 : IntKind.i64.wrap ((i : Int) + 1) = (i : Int) + 1 := Go.IntWalk.i64_in _ (by omega)
                obtain ⟨hP5, hO5⟩ := hP4.step hlt
                have hO45 := HO4.out.then hO5 [p] (by simp) (by simp)
                have HP5 := Lib.hid hP5
                have Hg5 := Lib.hid (Hg.out.keep hO45 (by simp; omega))
                have HB5 := Lib.hid (HB.out.only hO45 (by simp; omega))
                have HB05 := Lib.hid (HB0.out.only hO45 (by simp; omega))
                have Hu5 := Lib.hid hO45
                have HO5 := Lib.hid (HOr.out.then hO45 [] (by simp) (by simp; omega))
                have hs5 := Nat.le_trans hs1 hO45.size
                clear hP4 hP5 hO5 hO45 HP HO4
                go_upto_region 17 with fail
                generalize hW5 : w42.setCell ⟨p, 1, none⟩ (.int .i64 ((i : Int) + 1)) = w5 at *
                clear hW5 c1 g1 hw1 hpW
                go_wp2_with fail
                refine (HNm.out w5 p HP5.out).mono ?_
                rintro r w8 ⟨rfl, hP8, hO8⟩
                unfold encStr
                have hf9 := IsBlk.made w8 (.cells #[.string ⟨n.toArray⟩, .int .i64 t.at_, .slice none 0 0] 51)
                have hOf := (Only.refl [] w8).alloc (.cells #[.string ⟨n.toArray⟩, .int .i64 t.at_, .slice none 0 0] 51)
                have Hf9 := Lib.hid hf9
                have HP9 := Lib.hid (hP8.more hOf)
                have Hu9 := Lib.hid ((Hu5.out.then hO8 [p] (by simp) (by simp)).then hOf [p] (by simp) (by simp))
                have hsw8 := (Hu5.out.then hO8 [p] (by simp) (by simp)).size
                clear hP8 hO8 hf9 hOf HP5 Hg5 HB5 HB05 HO5 Hu5
                go_upto_region 18 with fail
                generalize hW9 : w8.alloc (.cells #[.string ⟨n.toArray⟩, .int .i64 t.at_, .slice none 0 0] 51) = w9 at *
                clear hW9
                generalize w8.heap.size = q11 at *
                have hcw : er = 0 → wh = 0 := fun h => by rcases Hcs.out with ⟨-, h1, -⟩ | ⟨h1, -⟩ <;> omega
                have HBk := Lib.hid (dblock_two w9 p L i' e er wh Hok.out hcw HP9.out)
                clear hcw
                go_wp2_with fail
                refine HBk.out.mono ?_
                rintro r w10 ⟨v, b, fq, i2, er2, wh2, rfl, hA, hN, hP10, hO10, hcs2⟩
                obtain ⟨bv, dv, rfl, -⟩ := hA.slice
                have hq11 : p < q11 := by omega
                have Hf10 := Lib.hid (Hf9.out.only hO10 (by simp; omega))
                have g2 := Hf10.out.cell 2
                have gf := Hf10.out.notFrozen 2
                have gl := Hf10.out.lt
                have hS : Only [q11] w10 (w10.setCell ⟨q11, 2, none⟩ (.slice bv b.len dv)) := (Only.refl [q11] w10).setCell (p := ⟨q11, 2, none⟩) (.inl (by simp)) _
                have hq9w : q11 < w9.heap.size := Hf9.out.lt
                have Hf11 := Lib.hid (IsBlk.put Hf10.out 2 (.slice bv b.len dv))
                have HP11 := Lib.hid (hP10.keep hS (by simp; omega))
                have HA11 := Lib.hid (hA.keep hS (fun j hj hm => by have := (hN.2 j hj).1; simp only [List.mem_singleton] at hm; omega))
                have HN11 := Lib.hid ((hN.less Hu9.out.size).more hS.size)
                have Hu11 := Lib.hid ((Hu9.out.then hO10 [p] (by simp) (by simp)).then hS [p] (by simp) (by simp; omega))
                have hres : (er2 = 0 ∧ wh2 = 0 ∧ i < i2 ∧ X = progF k e (L.drop i2) { P with funcs := P.funcs ++ [⟨n, t.at_, b⟩] }) ∨ (er2 ≠ 0 ∧ X = .error (wh2, er2)) := by
                  rcases Hcs.out with ⟨h1, h2, h3, h4⟩ | ⟨h1, h4⟩
                  · rcases hcs2 with ⟨-, k1, k2, k3⟩ | ⟨-, k1, k3⟩ | ⟨k1, -⟩
                    · have hlen : i' < i2 := by
                        have := (parse_len _).1 _ _ _ _ _ k3
                        rw [List.length_drop, List.length_drop] at this
                        omega
                      exact .inl ⟨k1, k2, by omega, Hone.out n _ _ b h4 (by rw [List.length_drop]; exact k3)⟩
                    · exact .inr ⟨k1, Hbad.out n _ _ h4 (by rw [List.length_drop]; exact k3)⟩
                    · exact absurd h1 k1
                  · rcases hcs2 with ⟨k0, -⟩ | ⟨k0, -⟩ | ⟨-, k1, k2⟩
                    · exact absurd k0 h1
                    · exact absurd k0 h1
                    · rw [k1, k2]; exact .inr ⟨h1, Herr.out _ h4⟩
                have Hres := Lib.hid hres
                clear hS hA hN hP10 hO10 hcs2 hres Hf10 Hf9 HP9 Hu9 Hcs Herr Hone Hbad HBk
                go_upto_region 19 with fail
                generalize hW11 : w10.setCell ⟨q11, 2, none⟩ (.slice bv b.len dv) = w11 at *
                clear hW11 g2 gf gl
                have HB11 := Lib.hid (HB.out.only Hu11.out (by simp; omega))
                have y2 := HB11.out.cell 2
                have g0 := Hf11.out.cell 0
                have g1 := Hf11.out.cell 1
                have g2 := Hf11.out.cell 2
                have gl := Hf11.out.lt
                have hb9 := HB11.out.lt
                obtain ⟨xs, hxs, hxe⟩ := Hg.out.funcs
                have Hxs := Lib.hid hxs
                have Hxe := Lib.hid hxe
                have hq12 := IsBlk.made w11 (.cells #[.string ⟨n.toArray⟩, .int .i64 t.at_, .slice bv b.len dv] 51)
                have hOa := (Only.refl [] w11).alloc (.cells #[.string ⟨n.toArray⟩, .int .i64 t.at_, .slice bv b.len dv] 51)
                have Hu12 := Lib.hid (Hu11.out.plus hOa)
                have HA12 := Lib.hid (HA11.out.more hOa)
                have HN12 := Lib.hid (HN11.out.more hOa.size)
                have HP12 := Lib.hid (HP11.out.more hOa)
                have HB12 := Lib.hid (HB11.out.only hOa (by simp))
                have k0 := hq12.cell 0
                have k1 := hq12.cell 1
                have k2 := hq12.cell 2
                have K0 := Lib.hid k0
                have K1 := Lib.hid k1
                have K2 := Lib.hid k2
                have hac : P.funcs.length ≤ 1000000 := by omega
                have hox := owns_keep Hxs.out Hu12.out (by simp; omega)
                have Hox := Lib.hid hox
                have hs12 := Nat.le_trans hs1 Hu12.out.size
                have hvo : ∀ g ∈ ownL (.slice af P.funcs.length cf), wb.heap.size ≤ g := fun g hg => (World.ownsRow.lt hox g (mem_ownL.1 hg)).1
                clear k0 k1 k2 hq12 hOa hxs hxe hox HA11 HN11 HP11 Hu11
                go_wp2_with (at_builtin; refine wpList_append_fn rfl _ _ rfl wb.heap.size (.slice af P.funcs.length cf) P.funcs.length xs rfl Hox.out w11.heap.size 1 (⟨n, t.at_, b⟩ : FuncM) (.slice bv b.len dv) fq HA12.out rfl K0.out K1.out K2.out hac hs12 ?_; intro v' w13 h13 hg13 hb13; obtain ⟨a8, c8, rfl⟩ := owns_slice h13; have hB13 := HB12.out.only hg13 (fun hm => by have := hvo _ hm; omega); have s2 := hB13.cell 2; have sf := hB13.notFrozen 2; have sl := hB13.lt)
                have hG13 := Hg.out.func (d := ⟨n, t.at_, b⟩) hs1 Hu12.out (by simp; omega) Hxe.out h13 HA12.out HN12.out hg13 hb13
                have o9 : Only [q9] w13 (w13.setCell ⟨q9, 2, none⟩ (.slice a8 (P.funcs.length + 1 : Nat) c8)) := (Only.refl _ _).setCell (p := ⟨q9, 2, none⟩) (.inl (by simp)) _
                have HG14 := Lib.hid (hG13.keep o9 (by simp; omega))
                have HB14 := Lib.hid (IsBlk.put hB13 2 (.slice a8 (P.funcs.length + 1 : Nat) c8))
                have HB014 := Lib.hid ((HB0.out.only Hu12.out (by simp; omega)).only (hg13.then o9 (q9 :: ownL (.slice af P.funcs.length cf)) (fun i hi => .inl (by simp [hi])) (by simp)) (fun hm => by
                  rcases List.mem_cons.1 hm with h | h
                  · omega
                  · have := hvo _ h; omega))
                have HP14 := Lib.hid ((HP12.out.keep hg13 (fun g hg => by have := hvo g hg; omega)).keep o9 (by simp; omega))
                have HO14 := Lib.hid (((HOr.out.then Hu12.out [] (by simp) (by simp; omega)).then hg13 [] (by simp) (fun g hg => .inr (by have := hvo g hg; have := HOr.out.size; omega))).then o9 [] (by simp) (by simp; omega))
                have hs14 := Nat.le_trans (Nat.le_trans hs12 hg13.size) o9.size
                clear hG13 o9 hB13 h13 hg13 hb13 Hox
                go_roundw
                case rel =>
                  rcases Hres.out with ⟨rfl, rfl, hi2, h2⟩ | ⟨h1, h2⟩
                  · exact .inl ⟨{ P with funcs := P.funcs ++ [⟨n, t.at_, b⟩] }, _, _, _, fp ++ fq, i2, k, HG14.out, HB14.out, HB014.out, HP14.out, HO14.out, hs14, by omega, ⟨by first | omega | (simp; omega), by first | omega | (simp; omega), by first | omega | (simp; omega)⟩, Lib.hid h2⟩
                  · exact .inr ⟨i2, er2, wh2, h1, HB014.out, HP14.out, HO14.out, Lib.hid h2⟩
                case measure =>
                  rw [HP14.out.prM, HM.out]
                  rcases Hres.out with ⟨rfl, rfl, hi2, h2⟩ | ⟨h1, h2⟩
                  · simp only [if_true]; omega
                  · rw [if_neg h1]; simp only [if_true]; omega
              · rw [show decide (t.s = funcW) = false from by simp [h3]]
                have HX := Lib.hid (hX.out.trans (prog_bad h1 h2 h3))
                clear hX h1 h2 h3
                have HF := Lib.hid (rfail_any w42 p L i e 0 0 7 (HP.out.more HO4.out))
                unfold failM at HF
                simp only [if_true] at HF
                rw [Hat.out] at HF
                go_wp2_with fail
                refine HF.out.mono ?_
                rintro r w5 ⟨rfl, hP5, hO5⟩
                have hO45 := HO4.out.then hO5 [p] (by simp) (by simp)
                have HP5 := Lib.hid hP5
                have HB05 := Lib.hid (HB0.out.only hO45 (by simp; omega))
                have HO5 := Lib.hid (HOr.out.then hO45 [] (by simp) (by simp; omega))
                clear hP5 hO5 hO45 HF
                go_wp2
                go_roundw
                case rel =>
                  exact .inr ⟨i, 7, t.at_, by omega, HB05.out, HP5.out, HO5.out, HX⟩
                case measure =>
                  rw [HP5.out.prM, HM.out, if_neg (by omega)]
                  simp only [if_true]; omega
        · have hlti : ¬ (i : Int) < (L.length : Int) := by omega
          rw [List.drop_of_length_le (by omega)] at hX
          have HXX : Hid (X = .ok P) := Lib.hid (by rw [hX.out]; cases k <;> rfl)
          rw [HXX.out] at HY
          have y0 := HB.out.cell 0
          have y1 := HB.out.cell 1
          have y2 := HB.out.cell 2
          have hb9 := HB.out.lt
          have z0 := HB0.out.cell 0
          have z1 := HB0.out.cell 1
          have z2 := HB0.out.cell 2
          have f0 := HB0.out.notFrozen 0
          have f1 := HB0.out.notFrozen 1
          have f2 := HB0.out.notFrozen 2
          have hbz := HB0.out.lt
          clear hX HXX
          go_wp2
          refine bodyPost_ret_by (ret_p3 rfl _ _ q2 _ _ _ _ _ rfl rfl rfl (three_world HB0.out _ _ _).1) rfl ?_
          rw [HY.out]
          obtain ⟨-, o7⟩ := three_world HB0.out (.slice av P.vars.length cv) (.slice al P.locks.length cl) (.slice af P.funcs.length cf)
          exact ⟨_, _, _, rfl, (Hg.out.keep o7 (by simp; omega)).done, HOr.out.then o7 [] (by simp) (by simp; omega)⟩
      · have hei : ((er : Int) == 0) = false := by simp; omega
        rw [hX.out] at HY
        obtain ⟨-, c3, c4, -, hpl, -⟩ := hP.open
        have z0 := hB0.cell 0
        have z1 := hB0.cell 1
        have z2 := hB0.cell 2
        have f0 := hB0.notFrozen 0
        have f1 := hB0.notFrozen 1
        have f2 := hB0.notFrozen 2
        have hbz := hB0.lt
        have HB0 := Lib.hid hB0
        have HOr := Lib.hid hO
        clear hX hP hB0 hO her
        go_upto_region 21 with fail
        go_region
        go_wp2
        obtain ⟨o6, o7⟩ := three_world HB0.out (.slice none 0 0) (.slice none 0 0) (.slice none 0 0)
        refine bodyPost_ret_by (ret_p3 rfl _ _ q2 _ _ _ _ _ rfl rfl rfl (o6.only ((Only.refl [] _).drew) (by simp))) rfl ?_
        rw [HY.out]
        exact ⟨_, _, _, rfl, ProgAt.nil _, (HOr.out.then o7 [] (by simp) (by simp; omega)).drew⟩
  · have hei : ((er0 : Int) == 0) = false := by simp; omega
    have HY := Lib.hid (Hpm.out.trans (if_pos he))
    clear he Hpm
    go_wp2
    refine bodyPost_ret_by (ret_p3 rfl _ _ q2 _ _ _ _ _ rfl rfl rfl (three_world HZ1.out _ _ _).1) rfl ?_
    rw [HY.out]
    obtain ⟨-, o7⟩ := three_world HZ1.out (.slice none 0 0) (.slice none 0 0) (.slice none 0 0)
    exact ⟨_, _, _, rfl, ProgAt.nil _, HO1.out.then o7 [] (by simp) (by simp; omega)⟩

end Go.Proofs.YtildkedplmjdaaaGreatDoor
