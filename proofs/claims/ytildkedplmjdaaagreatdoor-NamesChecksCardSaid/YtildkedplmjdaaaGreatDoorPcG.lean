/-
  The document's parser: block, by induction.
-/
import Derived.Test.YtildkedplmjdaaaGreatDoorPcF
namespace Go.Proofs.YtildkedplmjdaaaGreatDoor
set_option maxRecDepth 100000
set_option linter.unusedVariables false
open Go.RowKit Go.Sort

section
variable {k d e : Nat} {t : Tok} {r r1 r2 : List Tok} {a b : Blk} {n : List UInt8} {y : Nat × Nat}
theorem ds_none (h : kindM t.s = 0) : stmtF (k + 1) d e (t :: r) = .error (t.at_, 7) := by rw [stmtF, if_pos h]
theorem ds_if_err (h : kindM t.s = 7) (hb : blockF k d e r = .error y) : stmtF (k + 1) d e (t :: r) = .error y := by rw [stmtF, if_neg (by omega), if_pos h, hb]
theorem ds_if_no (h : kindM t.s = 7) (hb : blockF k d e r = .ok (a, r1)) (hn : nextS r1 ≠ elseM) : stmtF (k + 1) d e (t :: r) = .ok (⟨7, t.at_, [], a, .nil⟩, r1) := by
  rw [stmtF, if_neg (by omega), if_pos h, hb]; simp only; rw [if_neg hn]
theorem ds_if_else_err (h : kindM t.s = 7) (hb : blockF k d e r = .ok (a, r1)) (hn : nextS r1 = elseM) (hb2 : blockF k d e r1.tail = .error y) : stmtF (k + 1) d e (t :: r) = .error y := by
  rw [stmtF, if_neg (by omega), if_pos h, hb]; simp only; rw [if_pos hn, hb2]
theorem ds_if_else (h : kindM t.s = 7) (hb : blockF k d e r = .ok (a, r1)) (hn : nextS r1 = elseM) (hb2 : blockF k d e r1.tail = .ok (b, r2)) : stmtF (k + 1) d e (t :: r) = .ok (⟨7, t.at_, [], a, b⟩, r2) := by
  rw [stmtF, if_neg (by omega), if_pos h, hb]; simp only; rw [if_pos hn, hb2]
theorem ds_loop_err (h : kindM t.s = 8) (hb : blockF k d e r = .error y) : stmtF (k + 1) d e (t :: r) = .error y := by rw [stmtF, if_neg (by omega), if_neg (by omega), if_pos h, hb]
theorem ds_loop (h : kindM t.s = 8) (hb : blockF k d e r = .ok (a, r1)) : stmtF (k + 1) d e (t :: r) = .ok (⟨8, t.at_, [], a, .nil⟩, r1) := by rw [stmtF, if_neg (by omega), if_neg (by omega), if_pos h, hb]
theorem ds_name_err (h0 : kindM t.s ≠ 0) (h7 : kindM t.s ≠ 7) (h8 : kindM t.s ≠ 8) (hn : nameF e r = .error y) : stmtF (k + 1) d e (t :: r) = .error y := by rw [stmtF, if_neg h0, if_neg h7, if_neg h8, hn]
theorem ds_name (h0 : kindM t.s ≠ 0) (h7 : kindM t.s ≠ 7) (h8 : kindM t.s ≠ 8) (hn : nameF e r = .ok (n, r1)) : stmtF (k + 1) d e (t :: r) = .ok (⟨kindM t.s, t.at_, n, .nil, .nil⟩, r1) := by rw [stmtF, if_neg h0, if_neg h7, if_neg h8, hn]
end
theorem ds_bad {k d : Nat} {L : List Tok} {i : Nat} (e : Nat) (hok : ∀ t ∈ L, OkT t) (h : isM L i 0 1 = false) : stmtF (k + 1) d e (L.drop i) = .error ((nextT (L.drop i) e).at_, 7) := by
  have hk := isM_no e h (by omega)
  have ho := okT_drop hok i
  generalize L.drop i = l at *
  cases l with
  | nil => rw [stmtF]; rfl
  | cons t r =>
    rcases ho t (by simp) with ⟨h1, -⟩ | ⟨-, h1⟩
    · exact absurd h1 hk
    · exact ds_none (by rw [h1]; rfl)
theorem word_else {L : List Tok} {i : Nat} (hok : ∀ t ∈ L, OkT t) (s : List UInt8) (hs : s ≠ []) : wordF L i 0 s = decide (nextS (L.drop i) = s) := by
  rcases Nat.lt_or_ge i L.length with hl | hl
  · obtain ⟨h1, h2⟩ := drop_next 0 hl
    generalize nextT (L.drop i) 0 = x at *
    have hn : nextS (L.drop i) = x.s := by rw [h1]; rfl
    rw [hn]
    unfold wordF isM
    rw [h2]
    rcases hok _ (List.mem_of_getElem? h2) with ⟨h3, -⟩ | ⟨h3, h4⟩
    · simp [h3]
    · simp [h3, h4, Ne.symm hs]
  · rw [List.drop_of_length_le hl]
    unfold wordF isM
    rw [List.getElem?_eq_none hl]
    simp [nextS, Ne.symm hs]
theorem word_bad {L : List Tok} {i er : Nat} (s : List UInt8) (h : er ≠ 0) : wordF L i er s = false := by unfold wordF; rw [isM_bad h, Bool.false_and]

/-- What block leaves. -/
def DBlockTo (w : World) (p : Nat) (L : List Tok) (e : Nat) (X : PR (Blk × List Tok)) (r : Ending) (w' : World) : Prop := match X with
  | .ok (b, rest) => ∃ v fq i', r = .returned v ∧ BlkAt w' v b fq ∧ NewB w w' fq ∧ L.drop i' = rest ∧ PrAt w' p L i' e 0 0 ∧ Only [p] w w'
  | .error (a, k) => ∃ i', r = .returned (.slice none 0 0) ∧ k ≠ 0 ∧ PrAt w' p L i' e k a ∧ Only [p] w w'

def prM (w : World) (p n : Nat) : Nat := match w.cell? ⟨p, 1, none⟩, w.cell? ⟨p, 3, none⟩ with
  | some (.int _ i), some (.int _ er) => if er = 0 then n + 1 - i.toNat else 0
  | _, _ => 0
theorem PrAt.prM {w : World} {p : Nat} {L : List Tok} {i e er wh : Nat} (h : PrAt w p L i e er wh) (n : Nat) : prM w p n = if er = 0 then n + 1 - i else 0 := by
  obtain ⟨a, c, hb, -⟩ := h
  unfold Proofs.YtildkedplmjdaaaGreatDoor.prM
  rw [hb.cell 1, hb.cell 3]
  simp

/-- What one statement leaves: its block, the parser's state. -/
def StmCut (w3 wx : World) (q p : Nat) (L : List Tok) (e : Nat) (X : PR (StmM × List Tok)) : Prop :=
  ∃ (st : StmM) (va vb : Value) (fa fb : List Nat) (i' er wh : Nat), IsBlk wx q (.cells #[.int .i64 st.kind, .int .i64 st.at_, encStr st.name, va, vb] 85) ∧ BlkAt wx va st.a fa ∧ BlkAt wx vb st.b fb ∧ NewB w3 wx (fa ++ fb) ∧ PrAt wx p L i' e er wh ∧ Only [p, q] w3 wx ∧
    ((er = 0 ∧ wh = 0 ∧ X = .ok (st, L.drop i')) ∨ (er ≠ 0 ∧ X = .error (wh, er)))

theorem stmt_world {W : World} {q : Nat} {x0 x1 x2 x3 x4 : Value} {T : TypeId} (hq : IsBlk W q (.cells #[x0, x1, x2, x3, x4] T)) (t0 t1 t2 t3 t4 : Value) :
    IsBlk (((((W.setCell ⟨q, 0, none⟩ t0).setCell ⟨q, 1, none⟩ t1).setCell ⟨q, 2, none⟩ t2).setCell ⟨q, 3, none⟩ t3).setCell ⟨q, 4, none⟩ t4) q (.cells #[t0, t1, t2, t3, t4] T) ∧ Only [q] W (((((W.setCell ⟨q, 0, none⟩ t0).setCell ⟨q, 1, none⟩ t1).setCell ⟨q, 2, none⟩ t2).setCell ⟨q, 3, none⟩ t3).setCell ⟨q, 4, none⟩ t4) :=
  ⟨IsBlk.put (IsBlk.put (IsBlk.put (IsBlk.put (IsBlk.put hq 0 t0) 1 t1) 2 t2) 3 t3) 4 t4,
   ((((((Only.refl [q] W).setCell (p := ⟨q, 0, none⟩) (.inl (by simp)) _).setCell (p := ⟨q, 1, none⟩) (.inl (by simp)) _).setCell (p := ⟨q, 2, none⟩) (.inl (by simp)) _).setCell (p := ⟨q, 3, none⟩) (.inl (by simp)) _).setCell (p := ⟨q, 4, none⟩) (.inl (by simp)) _)⟩

set_option maxHeartbeats 16000000 in
theorem dblock_step (f : Nat) (ih : ∀ f' < f, ∀ (w : World) (p : Nat) (L : List Tok) (i e d : Nat), (∀ t ∈ L, OkT t) → PrAt w p L i e 0 0 → 2 * (L.length - i) + 1 ≤ f' → d ≤ 20 → Calls Tryz.prog 29 #[.pointer (some ⟨p, 0, none⟩), .int .i64 d] w (DBlockTo w p L e (blockF f' d e (L.drop i))))
    (w : World) (p : Nat) (L : List Tok) (i e d : Nat) (hok : ∀ t ∈ L, OkT t) (h : PrAt w p L i e 0 0) (hf : 2 * (L.length - i) + 1 ≤ f) (hd : d ≤ 20) :
    Calls Tryz.prog 29 #[.pointer (some ⟨p, 0, none⟩), .int .i64 d] w (DBlockTo w p L e (blockF f d e (L.drop i))) := by
  have H := Lib.hid h
  have Hok := Lib.hid hok
  have hp := h.lt
  obtain ⟨-, -, -, -, -, hil, hml⟩ := h.open
  clear h hok
  obtain ⟨f, rfl⟩ : ∃ g, f = g + 1 := ⟨f - 1, by omega⟩
  have Hbad := Lib.hid (@block_bad f d e (L.drop i))
  have Hdeep := Lib.hid (@block_deep f d e (L.drop i))
  have Hin := Lib.hid (@block_in f d e (L.drop i))
  have HI := Lib.hid (ris_any w p L i e 0 0 2 H.out)
  go_enter Tryz.func29, Tryz.ntmps29
  go_wp2_with fail
  refine HI.out.mono ?_
  rintro r w1 ⟨rfl, hO1⟩
  have HP1 := Lib.hid (H.out.more hO1)
  have HO1 := Lib.hid hO1
  clear hO1 HI
  cases hz : isM L i 0 2 with
  | false =>
    have HX := Lib.hid (Hbad.out (isM_no e hz (by omega)))
    have HF := Lib.hid (rfail_any w1 p L i e 0 0 7 HP1.out)
    clear Hbad Hdeep Hin hz
    go_wp2_with fail
    refine HF.out.mono ?_
    rintro r w2 ⟨rfl, hP, hO⟩
    have HP2 := Lib.hid hP
    have HO2 := Lib.hid (HO1.out.then hO [p] (by simp) (by simp))
    clear hP hO HF
    go_wp2
    go_ret
    rw [HX.out]
    exact ⟨i, rfl, by omega, HP2.out, HO2.out⟩
  | true =>
    obtain ⟨hlt, hk2, hdrop, hget⟩ := isM_yes e hz
    by_cases hdd : 20 ≤ d
    · have hdi : (20 : Int) ≤ (d : Int) := by omega
      have HX := Lib.hid (Hdeep.out hk2 hdd)
      have HF := Lib.hid (rfail_any w1 p L i e 0 0 8 HP1.out)
      clear Hbad Hdeep Hin hz hdrop hget hk2
      go_wp2_with fail
      refine HF.out.mono ?_
      rintro r w2 ⟨rfl, hP, hO⟩
      have HP2 := Lib.hid hP
      have HO2 := Lib.hid (HO1.out.then hO [p] (by simp) (by simp))
      clear hP hO HF
      go_wp2
      go_ret
      rw [HX.out]
      exact ⟨i, rfl, by omega, HP2.out, HO2.out⟩
    · have hdi : ¬ (20 : Int) ≤ (d : Int) := by omega
      obtain ⟨hX, -⟩ := Hin.out hk2 hdd
      rw [show (L.drop i).tail = L.drop (i + 1) by rw [hdrop]; rfl] at hX
      have HX := Lib.hid hX
      clear Hbad Hdeep Hin hX hz hdrop hget hk2
      generalize blockF (f + 1) d e (L.drop i) = X at *
      obtain ⟨c1, -, -, f1, hpW, -⟩ := HP1.out.open
      have hw1 : IntKind.i64.wrap ((i : Int) + 1) = (i : Int) + 1 := Go.IntWalk.i64_in _ (by omega)
      obtain ⟨hP2, hO2⟩ := HP1.out.step hlt
      have HP2 := Lib.hid hP2
      have HO2 := Lib.hid (HO1.out.then hO2 [p] (by simp) (by simp))
      clear hP2 hO2 HP1 HO1
      have hdw : IntKind.i64.wrap ((d : Int) + 1) = ((d + 1 : Nat) : Int) := by rw [Go.IntWalk.i64_in _ (by omega)]; omega
      have Hdw := Lib.hid hdw
      go_wp2_with fail
      generalize hW2 : w1.setCell ⟨p, 1, none⟩ (.int .i64 ((i : Int) + 1)) = w2 at *
      clear hW2 c1 f1 hw1 hdi hdw hpW
      go_loopw [5] (fun v wr => (∃ (acc : Blk) (fp : List Nat) (i k : Nat), GrowB w wr v acc fp ∧ PrAt wr p L i e 0 0 ∧ Only [p] w wr ∧ 2 * (L.length - i) + 2 ≤ k ∧ k ≤ f ∧ acc.len + (L.length - i) ≤ 1000000 ∧ Hid (X = thenB acc (stmtsF k (d + 1) e (L.drop i)))) ∨ ∃ (i er wh : Nat), er ≠ 0 ∧ PrAt wr p L i e er wh ∧ Only [p] w wr ∧ Hid (X = .error (wh, er))) (fun _ wr => prM wr p L.length)
      case atStart => exact .inl ⟨.nil, [], i + 1, f, GrowB.nil _ _, HP2.out, HO2.out, by omega, Nat.le_refl _, by simp only [Blk.len]; omega, HX⟩
      case round =>
        clear HP2 HO2 HX hlt
        rcases hrel with ⟨acc, fp, i, k, hg, hP, hO, hk2, hkf, hal, hX⟩ | ⟨i, er, wh, her, hP, hO, hX⟩
        · have Hg := Lib.hid hg
          have HP := Lib.hid hP
          have HO := Lib.hid hO
          have HM := Lib.hid (hP.prM L.length)
          have hpr := hP.lt
          have HI := Lib.hid (ris_any wr p L i e 0 0 1 hP)
          have hsz := hO.size
          clear hg hP hO
          obtain ⟨k, rfl⟩ : ∃ g, k = g + 2 := ⟨k - 2, by omega⟩
          cases hz : isM L i 0 1 with
          | false =>
            rw [hz] at HI
            have hds := ds_bad (k := k) (d := d + 1) e Hok.out hz
            have Hds := Lib.hid hds
            have HI3 := Lib.hid (fun W hW => ris_any W p L i e 0 0 3 (HP.out.more (hW : Only [] wr W)))
            clear hz hds
            go_wp2_with fail
            refine HI.out.mono ?_
            rintro r w3 ⟨rfl, hO3⟩
            have HO3 := Lib.hid hO3
            clear hO3 HI
            cases h3 : isM L i 0 3 with
            | false =>
              have HX := Lib.hid (hX.out.trans (stmts_err (acc := acc) (isM_no e h3 (by omega)) Hds.out))
              rw [h3] at HI3
              clear h3 hX Hds
              go_wp2_with fail
              refine (HI3.out w3 HO3.out).mono ?_
              rintro r w4 ⟨rfl, hO4⟩
              have HP4 := Lib.hid (HP.out.more (HO3.out.plus hO4))
              have HO4 := Lib.hid (HO.out.plus (HO3.out.plus hO4))
              have HF := Lib.hid (rfail_any w4 p L i e 0 0 7 HP4.out)
              clear hO4
              go_wp2_with fail
              refine HF.out.mono ?_
              rintro r w5 ⟨rfl, hP, hO⟩
              have HP5 := Lib.hid hP
              have HO5 := Lib.hid (HO4.out.then hO [p] (by simp) (by simp))
              clear hP hO HF
              go_wp2
              go_ret
              rw [HX.out]
              exact ⟨i, rfl, by omega, HP5.out, HO5.out⟩
            | true =>
              obtain ⟨hlt, hk3, hdrop, -⟩ := isM_yes e h3
              have hXX := hX.out.trans (stmts_end (acc := acc) hk3)
              rw [show (L.drop i).tail = L.drop (i + 1) by rw [hdrop]; rfl] at hXX
              have HX := Lib.hid hXX
              rw [h3] at HI3
              clear h3 hX Hds hXX hdrop hk3
              go_wp2_with fail
              refine (HI3.out w3 HO3.out).mono ?_
              rintro r w4 ⟨rfl, hO4⟩
              have hP4 := HP.out.more (HO3.out.plus hO4)
              obtain ⟨c1, -, -, f1, hpW, -⟩ := hP4.open
              have hw1 : IntKind.i64.wrap ((i : Int) + 1) = (i : Int) + 1 := Go.IntWalk.i64_in _ (by omega)
              obtain ⟨hP5, hO5⟩ := hP4.step hlt
              have HP5 := Lib.hid hP5
              have HO5 := Lib.hid ((HO.out.plus (HO3.out.plus hO4)).then hO5 [p] (by simp) (by simp))
              have HG5 := Lib.hid (((Hg.out.more (HO3.out.plus hO4)).keep hO5 (by simp; omega)).done)
              clear hP4 hO4 hP5 hO5
              go_wp2
              go_ret
              rw [HX.out]
              obtain ⟨fq, hb, hn⟩ := HG5.out
              exact ⟨_, fq, i + 1, rfl, hb, hn, rfl, HP5.out, HO5.out⟩
          | true =>
            rw [hz] at HI
            obtain ⟨hlt, hk1, hdrop, hget⟩ := isM_yes e hz
            obtain ⟨g, c, l0, hgp, -, -, l2⟩ := HP.out.tok i hget
            obtain ⟨l1, -⟩ := HP.out.open
            have hcl : ∀ W, Only [] wr W → W.cell? ⟨p, 0, none⟩ = some (.slice (some ⟨g, 0, none⟩) L.length c) ∧ W.cell? ⟨p, 1, none⟩ = some (.int .i64 i) ∧ W.cell? ⟨g, i * 3 + 2, none⟩ = some (.string ⟨(nextT (L.drop i) e).s.toArray⟩) ∧ p < W.heap.size ∧ g < W.heap.size := fun W hW =>
              ⟨(hW.cell (p := ⟨p, 0, none⟩) hpr (by simp)).trans l0, (hW.cell (p := ⟨p, 1, none⟩) hpr (by simp)).trans l1, (hW.cell (p := ⟨g, i * 3 + 2, none⟩) (by show g < _; omega) (by simp)).trans l2, Nat.lt_of_lt_of_le hpr hW.size, Nat.lt_of_lt_of_le (by omega) hW.size⟩
            have Hcl := Lib.hid hcl
            have HAt := Lib.hid (fun W hW => rat_any W p L i e 0 0 (HP.out.more (hW : Only [] wr W)))
            have Hdrop := Lib.hid hdrop
            have Hk3 : Hid ((nextT (L.drop i) e).kind ≠ 3) := Lib.hid (by omega)
            have Herr := Lib.hid (fun (y : Nat × Nat) (h : stmtF (k + 1) (d + 1) e (L.drop i) = .error y) => hX.out.trans (stmts_err (acc := acc) Hk3.out h))
            have Hone := Lib.hid (fun (s : StmM) (r1 : List Tok) (h : stmtF (k + 1) (d + 1) e (L.drop i) = .ok (s, r1)) => hX.out.trans (stmts_one (acc := acc) Hk3.out h))
            have hsl : Hid (∀ s r1, stmtF (k + 1) (d + 1) e (L.drop i) = .ok (s, r1) → r1.length < L.length - i) := Lib.hid (fun s r1 h => by have := stmt_lent h; rwa [List.length_drop] at this)
            have HF0 := Lib.hid (fun W (hW : PrAt W p L i e 0 0) => rfail_any W p L i e 0 0 7 hW)
            unfold failM at HF0
            simp only [if_true] at HF0
            clear hz hget hdrop hk1 hcl l0 l1 l2 hX Hk3
            have hlti : (i : Int) < (L.length : Int) := by omega
            have hi0 : (0 : Int) ≤ (i : Int) := by omega
            generalize nextT (L.drop i) e = t at *
            have HKd := Lib.hid (fun W => dkind_any W t.s)
            unfold encStr at HKd
            go_wp2_with fail
            refine HI.out.mono ?_
            rintro r w3 ⟨rfl, hO3⟩
            go_upto_region 10 with fail
            have hdr : Only [] wr w3.drew := hO3.drew
            clear HI
            refine wp_region_stabL (P := Tryz.prog) 16 (by kernel_rfl) (by kernel_rfl) (Only []) (Only.refl _ _) (fun _ _ _ h k => h.then k [] (by simp) (by simp))
              [SP.is (.pointer (some ⟨p, 0, none⟩)),
               SP.is (.pointer (some ⟨p, 0, none⟩)),
               SP.is (.pointer (some ⟨p, 0, none⟩)),
               SP.is (.slice (some ⟨g, 0, none⟩) L.length c),
               SP.is (.pointer (some ⟨p, 0, none⟩)),
               SP.is (.pointer (some ⟨p, 0, none⟩)),
               SP.is (.pointer (some ⟨p, 1, none⟩)),
               SP.is (.int .i64 i),
               SP.is (.pointer (some ⟨g, i * 3, none⟩)),
               SP.is (.pointer (some ⟨g, i * 3 + 2, none⟩)),
               SP.is (.string ⟨t.s.toArray⟩),
               SP.is (.int .i64 (kindM t.s)),
               SP.is (.pointer (some ⟨p, 0, none⟩)),
               SP.is (.int .i64 t.at_),
               SP.is (.agg #[.int .i64 (kindM t.s), .int .i64 t.at_, .string ⟨#[]⟩, .slice none 0 0, .slice none 0 0]),
               ⟨fun v W => ∃ q, v = .pointer (some ⟨q, 0, none⟩) ∧ IsBlk W q (.cells #[.int .i64 0, .int .i64 0, .string ⟨#[]⟩, .slice none 0 0, .slice none 0 0] 85) ∧ wr.heap.size ≤ q, fun _ _ _ ⟨q, e1, h1, h2⟩ hO => ⟨q, e1, h1.only hO (by simp), h2⟩⟩] ?_ ?_
            · simp only [List.take_succ_cons, List.take_zero]
              refine StepsOK.cons ?_ (StepsOK.cons ?_ (StepsOK.cons ?_ (StepsOK.cons ?_ (StepsOK.cons ?_ (StepsOK.cons ?_ (StepsOK.cons ?_ (StepsOK.cons ?_ (StepsOK.cons ?_ (StepsOK.cons ?_ (StepsOK.cons ?_ (StepsOK.cons ?_ (StepsOK.cons ?_ (StepsOK.cons ?_ (StepsOK.cons ?_ (StepsOK.cons ?_ StepsOK.nil)))))))))))))))
              · intro a W L N hR hold hφ hcl hkp hd K hK
                have e0 := hold 0 (by kernel_rfl)
                clear hold hφ hcl hkp hd
                rw [if_pos (by rfl)]
                go_simp
                exact hK _ _ (Only.refl _ _) rfl
              · intro a W L N hR hold hφ hcl hkp hd K hK
                have e25 := got hφ (hd 0 (by kernel_rfl)) rfl rfl rfl
                obtain ⟨l0, l1, l2, l3, l4⟩ := Hcl.out W (Only.plus hdr hR)
                clear hold hφ hcl hkp hd
                rw [if_pos (by rfl)]
                go_simp
                exact hK _ _ (Only.refl _ _) rfl
              · intro a W L N hR hold hφ hcl hkp hd K hK
                have e26 := got hφ (hd 1 (by kernel_rfl)) rfl rfl rfl
                clear hold hφ hcl hkp hd
                rw [if_pos (by rfl)]
                go_simp
                exact hK _ _ (Only.refl _ _) rfl
              · intro a W L N hR hold hφ hcl hkp hd K hK
                have e27 := got hφ (hd 2 (by kernel_rfl)) rfl rfl rfl
                obtain ⟨l0, l1, l2, l3, l4⟩ := Hcl.out W (Only.plus hdr hR)
                clear hold hφ hcl hkp hd
                rw [if_pos (by rfl)]
                go_simp
                exact hK _ _ (Only.refl _ _) rfl
              · intro a W L N hR hold hφ hcl hkp hd K hK
                have e0 := hold 0 (by kernel_rfl)
                clear hold hφ hcl hkp hd
                rw [if_pos (by rfl)]
                go_simp
                exact hK _ _ (Only.refl _ _) rfl
              · intro a W L N hR hold hφ hcl hkp hd K hK
                have e29 := got hφ (hd 4 (by kernel_rfl)) rfl rfl rfl
                obtain ⟨l0, l1, l2, l3, l4⟩ := Hcl.out W (Only.plus hdr hR)
                clear hold hφ hcl hkp hd
                rw [if_pos (by rfl)]
                go_simp
                exact hK _ _ (Only.refl _ _) rfl
              · intro a W L N hR hold hφ hcl hkp hd K hK
                have e30 := got hφ (hd 5 (by kernel_rfl)) rfl rfl rfl
                clear hold hφ hcl hkp hd
                rw [if_pos (by rfl)]
                go_simp
                exact hK _ _ (Only.refl _ _) rfl
              · intro a W L N hR hold hφ hcl hkp hd K hK
                have e31 := got hφ (hd 6 (by kernel_rfl)) rfl rfl rfl
                obtain ⟨l0, l1, l2, l3, l4⟩ := Hcl.out W (Only.plus hdr hR)
                clear hold hφ hcl hkp hd
                rw [if_pos (by rfl)]
                go_simp
                exact hK _ _ (Only.refl _ _) rfl
              · intro a W L N hR hold hφ hcl hkp hd K hK
                have e28 := got hφ (hd 3 (by kernel_rfl)) rfl rfl rfl
                have e32 := got hφ (hd 7 (by kernel_rfl)) rfl rfl rfl
                clear hold hφ hcl hkp hd
                rw [if_pos (by rfl)]
                go_simp
                exact hK _ _ (Only.refl _ _) rfl
              · intro a W L N hR hold hφ hcl hkp hd K hK
                have e33 := got hφ (hd 8 (by kernel_rfl)) rfl rfl rfl
                clear hold hφ hcl hkp hd
                rw [if_pos (by rfl)]
                go_simp
                exact hK _ _ (Only.refl _ _) rfl
              · intro a W L N hR hold hφ hcl hkp hd K hK
                have e34 := got hφ (hd 9 (by kernel_rfl)) rfl rfl rfl
                obtain ⟨l0, l1, l2, l3, l4⟩ := Hcl.out W (Only.plus hdr hR)
                clear hold hφ hcl hkp hd
                rw [if_pos (by rfl)]
                go_simp
                exact hK _ _ (Only.refl _ _) rfl
              · intro a W L N hR hold hφ hcl hkp hd K hK
                have e35 := got hφ (hd 10 (by kernel_rfl)) rfl rfl rfl
                clear hold hφ hcl hkp hd
                rw [if_pos (by rfl)]
                go_simp
                refine (HKd.out W).mono ?_
                rintro e' w' ⟨rfl, hO'⟩
                exact hK _ _ hO' rfl
              · intro a W L N hR hold hφ hcl hkp hd K hK
                have e0 := hold 0 (by kernel_rfl)
                clear hold hφ hcl hkp hd
                rw [if_pos (by rfl)]
                go_simp
                exact hK _ _ (Only.refl _ _) rfl
              · intro a W L N hR hold hφ hcl hkp hd K hK
                have e37 := got hφ (hd 12 (by kernel_rfl)) rfl rfl rfl
                have hW := Only.plus hdr hR
                clear hold hφ hcl hkp hd
                rw [if_pos (by rfl)]
                go_simp
                refine (HAt.out W hW).mono ?_
                rintro e' w' ⟨rfl, hO'⟩
                exact hK _ _ hO' rfl
              · intro a W L N hR hold hφ hcl hkp hd K hK
                have e36 := got hφ (hd 11 (by kernel_rfl)) rfl rfl rfl
                have e38 := got hφ (hd 13 (by kernel_rfl)) rfl rfl rfl
                clear hold hφ hcl hkp hd
                rw [if_pos (by rfl)]
                go_simp
                exact hK _ _ (Only.refl _ _) rfl
              · intro a W L N hR hold hφ hcl hkp hd K hK
                have hsz9 := (Only.plus hdr hR).size
                clear hold hφ hcl hkp hd
                rw [if_pos (by rfl)]
                go_simp
                exact hK _ _ ((Only.refl _ _).alloc _) ⟨_, rfl, IsBlk.made W _, hsz9⟩
            · intro us W hO' hus
              have p14 := hus 14 _ 39 (by omega) rfl rfl
              obtain ⟨q, p15, hbq, hq⟩ := hus 15 _ 6 (by omega) rfl rfl
              have p14 : us 14 = _ := p14
              clear hus
              simp only [List.take_succ_cons, List.take_zero, List.drop_succ_cons, List.drop_zero, fillAct, Act.put, List.setIfInBounds_toArray, List.set_cons_zero, List.set_cons_succ, Nat.reduceAdd, p14, p15]
              clear p14 p15
              obtain ⟨hS1, hS2⟩ := stmt_world hbq (.int .i64 (kindM t.s)) (.int .i64 t.at_) (.string ⟨#[]⟩) (.slice none 0 0) (.slice none 0 0)
              have hOW := hdr.plus hO'
              have HQ := Lib.hid hS1
              have HP5 := Lib.hid ((HP.out.more hOW).keep hS2 (by simp; omega))
              have Hw5 := Lib.hid (hOW.then hS2 [] (by simp) (by simp; omega))
              have c0 := hbq.cell 0
              have c1 := hbq.cell 1
              have c2 := hbq.cell 2
              have c3 := hbq.cell 3
              have c4 := hbq.cell 4
              have f0 := hbq.notFrozen 0
              have f1 := hbq.notFrozen 1
              have f2 := hbq.notFrozen 2
              have f3 := hbq.notFrozen 3
              have f4 := hbq.notFrozen 4
              have hql := hbq.lt
              clear hS1 hS2 hOW hO' hO3 hdr hbq Hcl HAt HKd hlti hi0
              go_upto_region 11 with fail
              generalize hW5 : ((((W.setCell ⟨q, 0, none⟩ (.int .i64 (kindM t.s))).setCell ⟨q, 1, none⟩ (.int .i64 t.at_)).setCell ⟨q, 2, none⟩ (.string ⟨#[]⟩)).setCell ⟨q, 3, none⟩ (.slice none 0 0)).setCell ⟨q, 4, none⟩ (.slice none 0 0) = w5 at *
              clear hW5 c0 c1 c2 c3 c4 f0 f1 f2 f3 f4 hql
              have q0 := HQ.out.cell 0
              have hql := HQ.out.lt
              by_cases h0 : kindM t.s = 0
              · have h0i : ((kindM t.s : Int) == 0) = true := by simp [h0]
                have HX := Lib.hid (Herr.out _ (by rw [Hdrop.out]; exact ds_none h0))
                have HF := Lib.hid (HF0.out w5 HP5.out)
                generalize kindM t.s = kk at *
                clear Herr Hone h0
                go_wp2_with fail
                refine HF.out.mono ?_
                rintro r w6 ⟨rfl, hP, hO⟩
                have HP6 := Lib.hid hP
                have HO6 := Lib.hid ((HO.out.plus Hw5.out).then hO [p] (by simp) (by simp))
                clear hP hO HF
                go_wp2
                go_ret
                rw [HX.out]
                exact ⟨i, rfl, by omega, HP6.out, HO6.out⟩
              · have h0i : ((kindM t.s : Int) == 0) = false := by simp; omega
                obtain ⟨c1, -, -, f1, hpW, -⟩ := HP5.out.open
                have hw1 : IntKind.i64.wrap ((i : Int) + 1) = (i : Int) + 1 := Go.IntWalk.i64_in _ (by omega)
                obtain ⟨hP6, hO6⟩ := HP5.out.step hlt
                have HP6 := Lib.hid hP6
                have HQ6 := Lib.hid (HQ.out.only hO6 (by simp; omega))
                have Hw6 := Lib.hid ((Hw5.out.then hO6 [p] (by simp) (by simp)))
                have H0 := Lib.hid h0
                clear hP6 hO6 HP5 HQ Hw5 HF0 h0
                go_upto_region 15 with fail
                generalize hW6 : w5.setCell ⟨p, 1, none⟩ (.int .i64 ((i : Int) + 1)) = w6 at *
                clear hW6 c1 f1 hpW hw1 q0 hql h0i
                have q0 := HQ6.out.cell 0
                have hql := HQ6.out.lt
                have hp6 := HP6.out.lt
                go_upto_block 2 with fail
                clear q0
                go_cut [] (fun wx => StmCut w6 wx q p L e (stmtF (k + 1) (d + 1) e (t :: L.drop (i + 1))))
                case first =>
                  have Hb := Lib.hid (fun (w : World) (i : Nat) (h : PrAt w p L i e 0 0) (hk : 2 * (L.length - i) + 1 ≤ k) => by
                    have h1 := ih k (by omega) w p L i e (d + 1) Hok.out h hk (by omega)
                    rw [show ((d + 1 : Nat) : Int) = (d : Int) + 1 from rfl] at h1
                    exact h1)
                  clear Herr Hone ih
                  have hqp : q ≠ p := by omega
                  have hpq : p ≠ q := by omega
                  have hdw := Hdw.out
                  have q3 := HQ6.out.cell 3
                  have g3 := HQ6.out.notFrozen 3
                  by_cases h7 : kindM t.s = 7
                  · have Hds1 := Lib.hid (fun y => @ds_if_err k (d + 1) e t (L.drop (i + 1)) y h7)
                    have Hds2 := Lib.hid (fun a r1 => @ds_if_no k (d + 1) e t (L.drop (i + 1)) r1 a h7)
                    have Hds3 := Lib.hid (fun a r1 y => @ds_if_else_err k (d + 1) e t (L.drop (i + 1)) r1 a y h7)
                    have Hds4 := Lib.hid (fun a b r1 r2 => @ds_if_else k (d + 1) e t (L.drop (i + 1)) r1 r2 a b h7)
                    have h7i : ((kindM t.s : Int) == 7) = true := by simp [h7]
                    rw [h7] at HQ6
                    generalize kindM t.s = kk at *
                    clear H0 h7
                    have hde : nextS ([] : List Tok) ≠ elseM := by decide
                    have Hde := Lib.hid hde
                    have HWe := Lib.hid (fun (w : World) (i er wh : Nat) (h : PrAt w p L i e er wh) => (dword_any w p L i e er wh elseM h : Calls Tryz.prog _ #[.pointer (some ⟨p, 0, none⟩), .string ⟨#[101, 108, 115, 101]⟩] w _))
                    clear hde
                    go_wp2_with fail
                    have hb := Hb.out w6 (i + 1) HP6.out (by omega)
                    cases hbf : blockF k (d + 1) e (L.drop (i + 1)) with
                    | error y =>
                      rw [hbf] at hb
                      have HX := Lib.hid (Hds1.out y hbf)
                      clear Hds1 Hds2 Hds3 Hds4 hbf q3 g3
                      refine hb.mono ?_
                      clear hb
                      rintro r w7 ⟨i', rfl, hyk, hP7, hO7⟩
                      have HQ7 := Lib.hid (HQ6.out.only hO7 (by simp; omega))
                      have q3 := HQ7.out.cell 3
                      have g3 := HQ7.out.notFrozen 3
                      have hql := HQ7.out.lt
                      have hS : Only [q] w7 (w7.setCell ⟨q, 3, none⟩ (.slice none 0 0)) := (Only.refl [q] w7).setCell (p := ⟨q, 3, none⟩) (.inl (by simp)) _
                      have HP7 := Lib.hid (hP7.keep hS (by simp; omega))
                      have HO7 := Lib.hid (hO7.then hS [p, q] (by simp) (by simp))
                      have Hyk := Lib.hid hyk
                      clear hP7 hO7 hS hyk
                      go_wp2_with fail
                      refine (HWe.out _ i' y.2 y.1 HP7.out).mono ?_
                      rintro r w8 ⟨rfl, hO8⟩
                      rw [word_bad _ Hyk.out]
                      have HO8 := Lib.hid hO8
                      clear hO8
                      go_wp2_with fail
                      go_meet
                      exact ⟨⟨7, t.at_, [], .nil, .nil⟩, _, _, [], [], i', y.2, y.1, (IsBlk.put HQ7.out 3 (.slice none 0 0)).only HO8.out (by simp), BlkAt.nil _, BlkAt.nil _, NewB.nil _ _, HP7.out.more HO8.out, HO7.out.plus HO8.out, .inr ⟨Hyk.out, HX.out⟩⟩
                    | ok x =>
                      obtain ⟨a, r1⟩ := x
                      rw [hbf] at hb
                      have hr1 : r1.length < (L.drop (i + 1)).length := (parse_len k).1 _ _ _ _ _ hbf
                      rw [List.length_drop] at hr1
                      have HX2 := Lib.hid (Hds2.out a r1 hbf)
                      have HX3 := Lib.hid (fun y => Hds3.out a r1 y hbf)
                      have HX4 := Lib.hid (fun b r2 => Hds4.out a b r1 r2 hbf)
                      clear Hds1 Hds2 Hds3 Hds4 hbf q3 g3
                      refine hb.mono ?_
                      clear hb
                      rintro r w7 ⟨v, fq, i', rfl, hA, hN, rfl, hP7, hO7⟩
                      obtain ⟨av, cv, rfl, -⟩ := hA.slice
                      rw [List.length_drop] at hr1
                      have Hr1 := Lib.hid hr1
                      have HQ7 := Lib.hid (HQ6.out.only hO7 (by simp; omega))
                      have q3 := HQ7.out.cell 3
                      have g3 := HQ7.out.notFrozen 3
                      have hql := HQ7.out.lt
                      have hS : Only [q] w7 (w7.setCell ⟨q, 3, none⟩ (.slice av a.len cv)) := (Only.refl [q] w7).setCell (p := ⟨q, 3, none⟩) (.inl (by simp)) _
                      have HP7 := Lib.hid (hP7.keep hS (by simp; omega))
                      have HO7 := Lib.hid (hO7.then hS [p, q] (by simp) (by simp))
                      have HA := Lib.hid (hA.keep hS (fun j hj hm => by have := (hN.2 j hj).1; simp only [List.mem_singleton] at hm; omega))
                      have HN := Lib.hid (hN.more hS.size)
                      clear hP7 hO7 hS hA hN hr1
                      go_wp2_with fail
                      refine (HWe.out _ i' 0 0 HP7.out).mono ?_
                      rintro r w8 ⟨rfl, hO8⟩
                      rw [word_else Hok.out elseM (by decide)]
                      have HQ8 := Lib.hid ((IsBlk.put HQ7.out 3 (.slice av a.len cv)).only hO8 (by simp))
                      have HP8 := Lib.hid (HP7.out.more hO8)
                      have HO8 := Lib.hid (HO7.out.plus hO8)
                      have HA8 := Lib.hid (HA.out.more hO8)
                      have HN8 := Lib.hid (HN.out.more hO8.size)
                      clear hO8 HQ7 HP7 HO7 HA HN q3 g3 hql
                      by_cases hel : nextS (L.drop i') = elseM
                      · have hi'lt : i' < L.length := by
                          rcases Nat.lt_or_ge i' L.length with h | h
                          · exact h
                          · rw [List.drop_of_length_le h] at hel; exact absurd hel Hde.out
                        rw [show decide (nextS (L.drop i') = elseM) = true from by simp [hel]]
                        have HX3' := Lib.hid (fun y => HX3.out y hel)
                        have HX4' := Lib.hid (fun b r2 => HX4.out b r2 hel)
                        rw [List.tail_drop] at HX3' HX4'
                        obtain ⟨c1, -, -, f1, hpW, -⟩ := HP8.out.open
                        have hw1 : IntKind.i64.wrap ((i' : Int) + 1) = (i' : Int) + 1 := Go.IntWalk.i64_in _ (by omega)
                        obtain ⟨hP9, hO9⟩ := HP8.out.step hi'lt
                        have HP9 := Lib.hid hP9
                        have HQ9 := Lib.hid (HQ8.out.only hO9 (by simp; omega))
                        have HO9 := Lib.hid (HO8.out.then hO9 [p, q] (by simp) (by simp))
                        have HA9 := Lib.hid (HA8.out.keep hO9 (fun j hj hm => by have := (HN8.out.2 j hj).1; simp only [List.mem_singleton] at hm; omega))
                        have HN9 := Lib.hid (HN8.out.more hO9.size)
                        have hs9 := HO9.out.size
                        clear hel HX2 HX3 HX4 hP9 hO9 HP8 HQ8 HO8 HA8 HN8
                        go_upto_region 21 with fail
                        generalize hW9 : w8.setCell ⟨p, 1, none⟩ (.int .i64 ((i' : Int) + 1)) = w9 at *
                        clear hW9 c1 f1 hw1 hpW
                        go_wp2_with fail
                        have hb := Hb.out w9 (i' + 1) HP9.out (by have := Hr1.out; omega)
                        cases hbf : blockF k (d + 1) e (L.drop (i' + 1)) with
                        | error y =>
                          rw [hbf] at hb
                          have HX := Lib.hid (HX3'.out y hbf)
                          clear HX3' HX4' hbf
                          refine hb.mono ?_
                          clear hb
                          rintro r w10 ⟨j', rfl, hyk, hP10, hO10⟩
                          have HQ10 := Lib.hid (HQ9.out.only hO10 (by simp; omega))
                          have q4 := HQ10.out.cell 4
                          have g4 := HQ10.out.notFrozen 4
                          have hql := HQ10.out.lt
                          have hS : Only [q] w10 (w10.setCell ⟨q, 4, none⟩ (.slice none 0 0)) := (Only.refl [q] w10).setCell (p := ⟨q, 4, none⟩) (.inl (by simp)) _
                          have HP10 := Lib.hid (hP10.keep hS (by simp; omega))
                          have hOb := hO10.then hS [p, q] (by simp) (by simp)
                          have HO10 := Lib.hid (HO9.out.then hOb [p, q] (by simp) (by simp))
                          have HA10 := Lib.hid (HA9.out.keep hOb (fun j hj hm => by have := (HN9.out.2 j hj).1; simp only [List.mem_cons, List.not_mem_nil, or_false] at hm; omega))
                          have HN10 := Lib.hid (HN9.out.more hOb.size)
                          have Hyk := Lib.hid hyk
                          clear hP10 hO10 hS hyk hOb
                          go_wp2_with fail
                          go_meet
                          exact ⟨⟨7, t.at_, [], a, .nil⟩, _, _, fq, [], j', y.2, y.1, IsBlk.put HQ10.out 4 (.slice none 0 0), HA10.out, BlkAt.nil _, by rw [List.append_nil]; exact HN10.out, HP10.out, HO10.out, .inr ⟨Hyk.out, HX.out⟩⟩
                        | ok x =>
                          obtain ⟨b, r2⟩ := x
                          rw [hbf] at hb
                          have HX := Lib.hid (HX4'.out b r2 hbf)
                          clear HX3' HX4' hbf
                          refine hb.mono ?_
                          clear hb
                          rintro r w10 ⟨v, fr, j', rfl, hB, hNb, rfl, hP10, hO10⟩
                          obtain ⟨bv, dv, rfl, -⟩ := hB.slice
                          have HQ10 := Lib.hid (HQ9.out.only hO10 (by simp; omega))
                          have q4 := HQ10.out.cell 4
                          have g4 := HQ10.out.notFrozen 4
                          have hql := HQ10.out.lt
                          have hS : Only [q] w10 (w10.setCell ⟨q, 4, none⟩ (.slice bv b.len dv)) := (Only.refl [q] w10).setCell (p := ⟨q, 4, none⟩) (.inl (by simp)) _
                          have HP10 := Lib.hid (hP10.keep hS (by simp; omega))
                          have hOb := hO10.then hS [p, q] (by simp) (by simp)
                          have HO10 := Lib.hid (HO9.out.then hOb [p, q] (by simp) (by simp))
                          have HA10 := Lib.hid (HA9.out.keep hOb (fun j hj hm => by have := (HN9.out.2 j hj).1; simp only [List.mem_cons, List.not_mem_nil, or_false] at hm; omega))
                          have HB10 := Lib.hid (hB.keep hS (fun j hj hm => by have := (hNb.2 j hj).1; simp only [List.mem_singleton] at hm; omega))
                          have HN10 := Lib.hid ((HN9.out.app hNb hs9 hO10.size).more hS.size)
                          clear hP10 hO10 hS hOb hB hNb
                          go_wp2_with fail
                          go_meet
                          exact ⟨⟨7, t.at_, [], a, b⟩, _, _, fq, fr, j', 0, 0, IsBlk.put HQ10.out 4 (.slice bv b.len dv), HA10.out, HB10.out, HN10.out, HP10.out, HO10.out, .inl ⟨rfl, rfl, HX.out⟩⟩
                      · rw [show decide (nextS (L.drop i') = elseM) = false from by simp [hel]]
                        have HX := Lib.hid (HX2.out hel)
                        clear HX2 HX3 HX4 hel
                        go_wp2_with fail
                        go_meet
                        exact ⟨⟨7, t.at_, [], a, .nil⟩, _, _, fq, [], i', 0, 0, HQ8.out, HA8.out, BlkAt.nil _, by rw [List.append_nil]; exact HN8.out, HP8.out, HO8.out, .inl ⟨rfl, rfl, HX.out⟩⟩
                  · have h7i : ((kindM t.s : Int) == 7) = false := by simp; omega
                    by_cases h8 : kindM t.s = 8
                    · have h8i : ((kindM t.s : Int) == 8) = true := by simp [h8]
                      have Hds1 := Lib.hid (fun y => @ds_loop_err k (d + 1) e t (L.drop (i + 1)) y h8)
                      have Hds2 := Lib.hid (fun a r1 => @ds_loop k (d + 1) e t (L.drop (i + 1)) r1 a h8)
                      rw [h8] at HQ6
                      generalize kindM t.s = kk at *
                      clear H0 h7 h8
                      go_wp2_with fail
                      have hb := Hb.out w6 (i + 1) HP6.out (by omega)
                      cases hbf : blockF k (d + 1) e (L.drop (i + 1)) with
                      | error y =>
                        rw [hbf] at hb
                        have HX := Lib.hid (Hds1.out y hbf)
                        clear Hds1 Hds2 hbf q3 g3
                        refine hb.mono ?_
                        clear hb
                        rintro r w7 ⟨i', rfl, hyk, hP7, hO7⟩
                        have HQ7 := Lib.hid (HQ6.out.only hO7 (by simp; omega))
                        have q3 := HQ7.out.cell 3
                        have g3 := HQ7.out.notFrozen 3
                        have hql := HQ7.out.lt
                        have hS : Only [q] w7 (w7.setCell ⟨q, 3, none⟩ (.slice none 0 0)) := (Only.refl [q] w7).setCell (p := ⟨q, 3, none⟩) (.inl (by simp)) _
                        have HP7 := Lib.hid (hP7.keep hS (by simp; omega))
                        have HO7 := Lib.hid (hO7.then hS [p, q] (by simp) (by simp))
                        have Hyk := Lib.hid hyk
                        clear hP7 hO7 hS hyk
                        go_wp2_with fail
                        go_meet
                        exact ⟨⟨8, t.at_, [], .nil, .nil⟩, _, _, [], [], i', y.2, y.1, IsBlk.put HQ7.out 3 (.slice none 0 0), BlkAt.nil _, BlkAt.nil _, NewB.nil _ _, HP7.out, HO7.out, .inr ⟨Hyk.out, HX.out⟩⟩
                      | ok x =>
                        obtain ⟨a, r1⟩ := x
                        rw [hbf] at hb
                        have HX := Lib.hid (Hds2.out a r1 hbf)
                        clear Hds1 Hds2 hbf q3 g3
                        refine hb.mono ?_
                        clear hb
                        rintro r w7 ⟨v, fq, i', rfl, hA, hN, hdr, hP7, hO7⟩
                        obtain ⟨av, cv, rfl, -⟩ := hA.slice
                        have HQ7 := Lib.hid (HQ6.out.only hO7 (by simp; omega))
                        have q3 := HQ7.out.cell 3
                        have g3 := HQ7.out.notFrozen 3
                        have hql := HQ7.out.lt
                        have hS : Only [q] w7 (w7.setCell ⟨q, 3, none⟩ (.slice av a.len cv)) := (Only.refl [q] w7).setCell (p := ⟨q, 3, none⟩) (.inl (by simp)) _
                        have HP7 := Lib.hid (hP7.keep hS (by simp; omega))
                        have HO7 := Lib.hid (hO7.then hS [p, q] (by simp) (by simp))
                        have HA := Lib.hid (hA.keep hS (fun j hj hm => by have := (hN.2 j hj).1; simp only [List.mem_singleton] at hm; omega))
                        have HN := Lib.hid (hN.more hS.size)
                        have Hdr := Lib.hid hdr
                        clear hP7 hO7 hS hA hN hdr
                        go_wp2_with fail
                        go_meet
                        exact ⟨⟨8, t.at_, [], a, .nil⟩, _, _, fq, [], i', 0, 0, IsBlk.put HQ7.out 3 (.slice av a.len cv), HA.out, BlkAt.nil _, by rw [List.append_nil]; exact HN.out, HP7.out, HO7.out, .inl ⟨rfl, rfl, by rw [Hdr.out]; exact HX.out⟩⟩
                    · have h8i : ((kindM t.s : Int) == 8) = false := by simp; omega
                      have Hds1 := Lib.hid (fun y => @ds_name_err k (d + 1) e t (L.drop (i + 1)) y H0.out h7 h8)
                      have Hds2 := Lib.hid (fun n r1 => @ds_name k (d + 1) e t (L.drop (i + 1)) r1 n H0.out h7 h8)
                      generalize kindM t.s = kk at *
                      clear H0 h7 h8 Hb
                      go_wp2_with fail
                      have hn := dname_any w6 p L (i + 1) e Hok.out HP6.out
                      cases hnf : nameF e (L.drop (i + 1)) with
                      | error y =>
                        rw [hnf] at hn
                        have HX := Lib.hid (Hds1.out y hnf)
                        clear Hds1 Hds2 hnf q3 g3
                        refine hn.mono ?_
                        clear hn
                        rintro r w7 ⟨rfl, hyk, hP7, hO7⟩
                        have HQ7 := Lib.hid (HQ6.out.only hO7 (by simp; omega))
                        have q2 := HQ7.out.cell 2
                        have g2 := HQ7.out.notFrozen 2
                        have hql := HQ7.out.lt
                        unfold encStr
                        have hS : Only [q] w7 (w7.setCell ⟨q, 2, none⟩ (.string ⟨#[]⟩)) := (Only.refl [q] w7).setCell (p := ⟨q, 2, none⟩) (.inl (by simp)) _
                        have HP7 := Lib.hid (hP7.keep hS (by simp; omega))
                        have HO7 := Lib.hid (hO7.then hS [p, q] (by simp) (by simp))
                        have Hyk := Lib.hid (show y.2 ≠ 0 by omega)
                        clear hP7 hO7 hS hyk
                        go_wp2_with fail
                        go_meet
                        exact ⟨⟨kk, t.at_, [], .nil, .nil⟩, _, _, [], [], i + 1, y.2, y.1, IsBlk.put HQ7.out 2 (.string ⟨#[]⟩), BlkAt.nil _, BlkAt.nil _, NewB.nil _ _, HP7.out, HO7.out, .inr ⟨Hyk.out, HX.out⟩⟩
                      | ok x =>
                        obtain ⟨n, r1⟩ := x
                        rw [hnf] at hn
                        have HX := Lib.hid (Hds2.out n r1 hnf)
                        clear Hds1 Hds2 hnf q3 g3
                        refine hn.mono ?_
                        clear hn
                        rintro r w7 ⟨rfl, hdr, hlt2, hP7, hO7⟩
                        have HQ7 := Lib.hid (HQ6.out.only hO7 (by simp; omega))
                        have q2 := HQ7.out.cell 2
                        have g2 := HQ7.out.notFrozen 2
                        have hql := HQ7.out.lt
                        unfold encStr
                        have hS : Only [q] w7 (w7.setCell ⟨q, 2, none⟩ (.string ⟨n.toArray⟩)) := (Only.refl [q] w7).setCell (p := ⟨q, 2, none⟩) (.inl (by simp)) _
                        have HP7 := Lib.hid (hP7.keep hS (by simp; omega))
                        have HO7 := Lib.hid (hO7.then hS [p, q] (by simp) (by simp))
                        have Hdr := Lib.hid hdr
                        clear hP7 hO7 hS hdr hlt2
                        go_wp2_with fail
                        go_meet
                        exact ⟨⟨kk, t.at_, n, .nil, .nil⟩, _, _, [], [], i + 1 + 1, 0, 0, IsBlk.put HQ7.out 2 (.string ⟨n.toArray⟩), BlkAt.nil _, BlkAt.nil _, NewB.nil _ _, HP7.out, HO7.out, .inl ⟨rfl, rfl, by rw [Hdr.out]; exact HX.out⟩⟩
                case rest =>
                  obtain ⟨st, va, vb, fa, fb, i', er, wh, hQ, hA, hB, hN, hP, hO7, hX⟩ := hcut
                  rw [← Hdrop.out] at hX
                  have HX := Lib.hid hX
                  obtain ⟨av, cv, rfl, -⟩ := hA.slice
                  obtain ⟨bv, dv, rfl, -⟩ := hB.slice
                  have HA := Lib.hid hA
                  have HB := Lib.hid hB
                  have HN := Lib.hid (hN.less Hw6.out.size)
                  have HP := Lib.hid hP
                  have HO7 := Lib.hid (Hw6.out.then hO7 [p] (by simp) (fun j hj => by
                    simp only [List.mem_cons, List.not_mem_nil, or_false] at hj
                    rcases hj with rfl | rfl
                    · exact .inl (by simp)
                    · exact .inr hq))
                  have q0 := hQ.cell 0
                  have q1 := hQ.cell 1
                  have q2 := hQ.cell 2
                  have q3 := hQ.cell 3
                  have q4 := hQ.cell 4
                  have hql := hQ.lt
                  unfold encStr at q2
                  have hq9 := IsBlk.made wc (.cells #[.int .i64 st.kind, .int .i64 st.at_, .string ⟨st.name.toArray⟩, .slice av st.a.len cv, .slice bv st.b.len dv] 85)
                  have hOa := Lib.hid ((Only.refl [] wc).alloc (.cells #[.int .i64 st.kind, .int .i64 st.at_, .string ⟨st.name.toArray⟩, .slice av st.a.len cv, .slice bv st.b.len dv] 85))
                  have Hq0 := Lib.hid (hq9.cell 0)
                  have Hq1 := Lib.hid (hq9.cell 1)
                  have Hq2 := Lib.hid (hq9.cell 2)
                  have Hq3 := Lib.hid (hq9.cell 3)
                  have Hq4 := Lib.hid (hq9.cell 4)
                  have hac : acc.len ≤ 1000000 := by omega
                  have HsA := Lib.hid (HA.out.more hOa.out)
                  have HsB := Lib.hid (HB.out.more hOa.out)
                  have HsN := Lib.hid (HN.out.more hOa.out.size)
                  have HP9 := Lib.hid (HP.out.more hOa.out)
                  have HO9 := Lib.hid (HO7.out.plus hOa.out)
                  clear hX hA hB hN hP hO7 hQ HQ6 HP6 hq9 HA HB HN HP HO7
                  go_wp2_with (at_builtin; refine wpList_append_s rfl _ _ rfl w wr [p] u5 acc fp rfl Hg.out HO9.out (by simp; omega) hsz wc.heap.size 1 st (.slice av st.a.len cv) (.slice bv st.b.len dv) fa fb rfl Hq0.out Hq1.out Hq2.out Hq3.out Hq4.out HsA.out HsB.out HsN.out hac ?_; intro v' w9 h9 hg9)
                  have hvg : ∀ g ∈ ownL u5, p < g ∧ w.heap.size ≤ g := fun g hg => by
                    obtain ⟨xs, o1, -⟩ := Hg.out
                    have := (World.ownsRow.lt o1 g (mem_ownL.1 hg)).1
                    omega
                  have HP10 := Lib.hid (HP9.out.keep hg9 (fun g hg => (hvg g hg).1))
                  have HO10 := Lib.hid (HO.out.then (HO9.out.then hg9 (p :: ownL u5) (by simp) (fun g hg => .inl (by simp [hg]))) [p] (by simp) (fun g hg => by
                    rcases List.mem_cons.1 hg with rfl | hg
                    · exact .inl (by simp)
                    · exact .inr (hvg g hg).2))
                  have hile := HP10.out.open.2.2.2.2.2.1
                  go_roundw
                  case rel =>
                    rcases HX.out with ⟨rfl, rfl, h2⟩ | ⟨h1, h2⟩
                    · have h3 := hsl.out _ _ h2
                      rw [List.length_drop] at h3
                      exact .inl ⟨acc.app st.one, fp ++ (fa ++ fb), i', k + 1, h9, HP10.out, HO10.out, by omega, by omega, by rw [Blk.len_app]; simp only [StmM.one, Blk.len]; omega, Lib.hid (Hone.out _ _ h2)⟩
                    · exact .inr ⟨i', er, wh, h1, HP10.out, HO10.out, Lib.hid (Herr.out _ h2)⟩
                  case measure =>
                    rw [HP10.out.prM, HM.out]
                    rcases HX.out with ⟨rfl, rfl, h2⟩ | ⟨h1, h2⟩
                    · have h3 := hsl.out _ _ h2
                      rw [List.length_drop] at h3
                      simp only [if_true]
                      omega
                    · rw [if_neg h1]
                      simp only [if_true]
                      omega
        · have HP := Lib.hid hP
          have HO := Lib.hid hO
          have HI := Lib.hid (ris_any wr p L i e er wh 1 hP)
          clear hP hO
          go_wp2_with fail
          refine HI.out.mono ?_
          rintro r w3 ⟨rfl, hO3⟩
          rw [isM_bad her]
          have HP3 := Lib.hid (HP.out.more hO3)
          have HO3 := Lib.hid (HO.out.plus hO3)
          have HI3 := Lib.hid (ris_any w3 p L i e er wh 3 HP3.out)
          clear hO3 HP HO HI
          go_wp2_with fail
          refine HI3.out.mono ?_
          rintro r w4 ⟨rfl, hO4⟩
          rw [isM_bad her]
          have HP4 := Lib.hid (HP3.out.more hO4)
          have HO4 := Lib.hid (HO3.out.plus hO4)
          have HF := Lib.hid (rfail_any w4 p L i e er wh 7 HP4.out)
          clear hO4 HP3 HO3 HI3
          go_wp2_with fail
          refine HF.out.mono ?_
          rintro r w5 ⟨rfl, hP, hO⟩
          unfold failM at hP
          rw [if_neg her] at hP
          have HP5 := Lib.hid hP
          have HO5 := Lib.hid (HO4.out.then hO [p] (by simp) (by simp))
          clear hP hO HF
          go_wp2
          go_ret
          rw [hX.out]
          exact ⟨i, rfl, her, HP5.out, HO5.out⟩

theorem dblock_any (f : Nat) : ∀ (w : World) (p : Nat) (L : List Tok) (i e d : Nat), (∀ t ∈ L, OkT t) → PrAt w p L i e 0 0 → 2 * (L.length - i) + 1 ≤ f → d ≤ 20 → Calls Tryz.prog 29 #[.pointer (some ⟨p, 0, none⟩), .int .i64 d] w (DBlockTo w p L e (blockF f d e (L.drop i))) := by
  induction f using Nat.strongRecOn with
  | _ f ih => exact dblock_step f ih

end Go.Proofs.YtildkedplmjdaaaGreatDoor
