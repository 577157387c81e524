/-
  The walk of the law ParseBlanks.
-/
import Derived.Test.YtonpfmhdefhhmaaPbE
import Derived.Test.YtonpfmhdefhhmaaPbI
namespace Go.Proofs.Ytonpfmhdefhhmaa
set_option maxRecDepth 100000
set_option linter.unusedVariables false
open Go.RowKit Go.Sort

theorem more_app (m : Nat) : ∀ (a b : List UInt8) (i : Nat), moreM m i (a ++ b) = moreM m i a ++ moreM m (i + a.length) b
  | [], b, i => rfl
  | c :: a, b, i => by
    rw [List.cons_append, moreM, more_app m a b, moreM, List.length_cons, show i + 1 + a.length = i + (a.length + 1) by omega]
    simp
theorem more_len (m : Nat) : ∀ (a : List UInt8) (i : Nat), (moreM m i a).length ≤ 3 * a.length
  | [], i => by simp [moreM]
  | c :: a, i => by
    have := more_len m a (i + 1)
    rw [moreM, List.length_cons, List.length_append, List.length_cons]
    split
    · simp only [List.length_cons, List.length_nil]; omega
    · simp only [List.length_nil]; omega
theorem kok_erase : ∀ (x y : Blk), eraseB x = eraseB y → KOk y → KOk x
  | .nil, y, _, _ => trivial
  | .cons k p n a b r, .nil, h, _ => by simp [eraseB] at h
  | .cons k p n a b r, .cons k' p' n' a' b' r', h, hk => by
    simp only [eraseB, Blk.cons.injEq] at h
    obtain ⟨h1, h2, h3, h4, h5, h6⟩ := h
    exact ⟨by rw [h1]; exact hk.1, kok_erase a a' h4 hk.2.1, kok_erase b b' h5 hk.2.2.1, kok_erase r r' h6 hk.2.2.2⟩
theorem more_ge (m : Nat) : ∀ (a : List UInt8) (i : Nat), a.length ≤ (moreM m i a).length
  | [], i => Nat.zero_le _
  | c :: a, i => by
    have := more_ge m a (i + 1)
    rw [moreM, List.length_cons, List.length_cons, List.length_append]
    omega
/-- What is the same but for places is as good. -/
theorem back_ok {P Q : ProgM} (h : eraseP Q = eraseP P) (hB : ∀ f ∈ P.funcs, BodyOk f) : (∀ f ∈ Q.funcs, BodyOk f) ∧ Q.vars.length = P.vars.length ∧ Q.locks.length = P.locks.length ∧ Q.funcs.length = P.funcs.length := by
  obtain ⟨h4, h5⟩ := erase_funcs h
  have h1 : eraseD Q.vars = eraseD P.vars := congrArg ProgM.vars h
  have h2 : eraseD Q.locks = eraseD P.locks := congrArg ProgM.locks h
  refine ⟨fun f hf => ?_, by simpa [eraseD] using congrArg List.length h1, by simpa [eraseD] using congrArg List.length h2, h4⟩
  obtain ⟨f0, g1, g2, g3⟩ := h5 f hf
  obtain ⟨k1, k2⟩ := hB f0 g1
  exact ⟨by rw [← cnt_erase, g3, cnt_erase]; exact k1, kok_erase f.body f0.body g3 k2⟩

set_option maxHeartbeats 16000000 in
theorem pblanks_walk (va vb : Value) (a b : RawM) (by_ : Int) (w : World) (ha : RawAt w va a) (hb : RawAt w vb b) :
    Calls Try.prog 9 #[va, vb, .int .i64 by_] w fun e w' => e = .returned (.bool true) ∧ Only [] w w' := by
  have Ha := Lib.hid ha
  have Hb := Lib.hid hb
  obtain ⟨aa, ca, rfl, -⟩ := ha
  obtain ⟨ab, cb, rfl, -⟩ := hb
  go_enter Try.func9, Try.ntmps9
  go_wp2_with fail
  refine (known6_any _).mono ?_
  rintro e w0 ⟨rfl, hO0⟩
  have HO0 := Lib.hid hO0
  clear hO0
  go_wp2_with fail
  refine (few6_any a _ _ (Ha.out.more HO0.out)).mono ?_
  rintro e w1 ⟨rfl, hO1⟩
  have HO1 := Lib.hid (HO0.out.plus hO1)
  clear hO1
  by_cases hfa : sizeM a 0 ≤ 40
  · rw [show decide (sizeM a 0 ≤ 40) = true from by simp [hfa]]
    have Hfa := Lib.hid hfa
    clear hfa
    go_wp2_with fail
    refine (few6_any b _ _ (Hb.out.more HO1.out)).mono ?_
    rintro e w2 ⟨rfl, hO2⟩
    have HO2 := Lib.hid (HO1.out.plus hO2)
    clear hO2
    by_cases hfb : sizeM b 0 ≤ 40
    · rw [show decide (sizeM b 0 ≤ 40) = true from by simp [hfb]]
      have Hfb := Lib.hid hfb
      clear hfb
      go_wp2_with fail
      have hnil : RawAt w2 (.slice none 0 0) .nil := ⟨none, 0, rfl, Nat.zero_le _, fun h => by simp [RawM.len] at h⟩
      refine (prog6_any a b .nil .nil 1 w2 _ _ _ _ (Ha.out.more HO2.out) (Hb.out.more HO2.out) hnil hnil (by have := few_cnt Hfa.out; omega) (by have := few_cnt Hfb.out; omega) (by simp [RawM.cnt]) (by simp [RawM.cnt])).mono ?_
      rintro e w3 ⟨pv, pl, pf, rfl, hP, hO3⟩
      obtain ⟨hI, hB, hL⟩ := progR_good 1 Hfa.out Hfb.out few_nil few_nil
      have HT := Lib.hid (rtext_any w3 pv pl pf (progR a b .nil .nil 1) hP (by omega) (fun f hf => (hB f hf).2) ⟨by show 3 ≤ 1000000; omega, by unfold progR; simp only; split <;> simp, by unfold progR; simp only; split <;> simp⟩)
      have hfl : (progR a b .nil .nil 1).funcs.length = 4 := by unfold progR; simp only; split <;> rfl
      have HO3 := Lib.hid (HO2.out.plus hO3)
      have HBk := Lib.hid (fun (Q : ProgM) (h : eraseP Q = eraseP (progR a b .nil .nil 1)) => back_ok h (fun f hf => hB f hf))
      have Hp1 : Hid ((progT (progR a b .nil .nil 1)).length ≤ 2000 → ∃ Q, parseM (progT (progR a b .nil .nil 1)) = (Q, 0, 0) ∧ eraseP Q = eraseP (progR a b .nil .nil 1)) := Lib.hid (fun h => by
        obtain ⟨Q, h1, h2, -⟩ := parse_back _ hI h
        exact ⟨Q, h1, h2⟩)
      have Hp2 : Hid ((moreM (inM by_ 7) 0 (progT (progR a b .nil .nil 1))).length ≤ 2000 → ∃ Q, parseM (moreM (inM by_ 7) 0 (progT (progR a b .nil .nil 1))) = (Q, 0, 0) ∧ eraseP Q = eraseP (progR a b .nil .nil 1)) := Lib.hid (fun h => by
        rw [text_items] at h ⊢
        obtain ⟨ps, h1⟩ := parse_more (itemsP (progR a b .nil .nil 1)) hI _ h
        exact ⟨_, h1, by rw [erase_new, progI_items]⟩)
      have hpn : (progR a b .nil .nil 1).vars.length ≤ 1000 ∧ (progR a b .nil .nil 1).locks.length ≤ 1000 ∧ (progR a b .nil .nil 1).funcs.length ≤ 1000 := ⟨by show 3 ≤ 1000; omega, by unfold progR; simp only; split <;> simp, by unfold progR; simp only; split <;> simp⟩
      have Htl : Hid (∀ Q, eraseP Q = eraseP (progR a b .nil .nil 1) → (progT Q).length ≤ 4000 ∧ progT Q = progT (progR a b .nil .nil 1)) := Lib.hid (fun Q h => by rw [text_congr h]; exact ⟨hL, rfl⟩)
      have hlen : Hid ((progT (progR a b .nil .nil 1)).length ≤ 4000) := Lib.hid hL
      clear hB hI hnil hP hO3 hfl
      generalize progR a b .nil .nil 1 = P at *
      go_wp2_with fail
      refine HT.out.mono ?_
      rintro e w4 ⟨rfl, hO4⟩
      have HO4 := Lib.hid (HO3.out.plus hO4)
      clear hO4 HT
      generalize progT P = s at *
      unfold encStr
      have hsl : s.length ≤ 4000 := hlen.out
      have hmge := more_ge (inM by_ 7) s 0
      have hmle := more_len (inM by_ 7) s 0
      have Hm := Lib.hid (And.intro hmge hmle)
      clear hmge hmle hlen
      go_wp2_with fail
      go_loopw [8, 9] (fun tv iv wr => ∃ i : Nat, iv = .int .i64 i ∧ i ≤ s.length ∧ tv = .string ⟨(moreM (inM by_ 7) 0 (s.take i)).toArray⟩ ∧ Only [] w4 wr) (fun _ iv _ => s.length - (intOf iv).toNat)
      case atStart => exact ⟨0, rfl, Nat.zero_le _, rfl, Only.refl _ _⟩
      case round =>
        obtain ⟨i, rfl, hi, rfl, hO⟩ := hrel
        have HO := Lib.hid hO
        clear hO
        by_cases hlt : i < s.length
        · have hlti : (i : Int) < (s.length : Int) := by omega
          have hi0 : (0 : Int) ≤ (i : Int) := by omega
          have hi1 : (i : Int) ≤ (i : Int) + 1 := by omega
          have hi2 : (i : Int) + 1 ≤ (s.length : Int) := by omega
          have hw1 : IntKind.i64.wrap ((i : Int) + 1) = (i : Int) + 1 := Go.IntWalk.i64_in _ (by omega)
          have htk : s.take (i + 1) = s.take i ++ [s[i]] := by rw [List.take_add_one, List.getElem?_eq_getElem hlt]; rfl
          have hmo : moreM (inM by_ 7) 0 (s.take (i + 1)) = moreM (inM by_ 7) 0 (s.take i) ++ s[i] :: (if s[i] = 32 ∧ (i + inM by_ 7) % 7 = 0 then [10, 9] else []) := by
            rw [htk, more_app, List.length_take, show min i s.length = i by omega, Nat.zero_add, moreM, moreM, List.append_nil]
          have hml := more_len (inM by_ 7) (s.take i) 0
          rw [List.length_take] at hml
          have hsub : (⟨s.toArray⟩ : ByteArray).extract i (i + 1) = ⟨[s[i]].toArray⟩ := by
            rw [ByteArray.extract_mk]
            rw [show i + 1 - i = 1 by omega, List.drop_eq_getElem_cons hlt]
            rfl
          have hsub2 : (⟨s.toArray⟩ : ByteArray).extract i ((i : Int) + 1).toNat = ⟨[s[i]].toArray⟩ := by rw [show ((i : Int) + 1).toNat = i + 1 by omega]; exact hsub
          have hsi : s[i]? = some s[i] := List.getElem?_eq_getElem hlt
          have Hmo := Lib.hid hmo
          have Htk := Lib.hid htk
          clear hmo htk
          generalize moreM (inM by_ 7) 0 (s.take i) = tx at *
          generalize hsc : s[i] = ch at *
          have hadd : ∀ W : World, (Op.stringOp .add ⟨tx.toArray⟩ ⟨[ch].toArray⟩).run Try.prog W = .ok (.string (⟨tx.toArray⟩ ++ ⟨[ch].toArray⟩)) W := fun W => run_string_add_sum (P := Try.prog) W _ _ (by simp [ByteArray.size]; omega)
          go_upto_region 11 with fail
          rw [append_list]
          clear hadd hsub hsub2
          have hix : ∀ h : i < ByteArray.size ⟨s.toArray⟩, (⟨s.toArray⟩ : ByteArray)[i]'h = ch := by intro h; rw [← hsc]; rfl
          have Ht2 : Hid ((tx ++ [ch]).length = tx.length + 1) := Lib.hid (by simp)
          have Hmo2 : Hid (moreM (inM by_ 7) 0 (s.take (i + 1)) = (tx ++ [ch]) ++ (if ch = 32 ∧ (i + inM by_ 7) % 7 = 0 then [10, 9] else [])) := Lib.hid (by rw [Hmo.out]; simp)
          have htx2 : (tx ++ [ch]).length ≤ 13000 := by have := Ht2.out; omega
          generalize tx ++ [ch] = t2 at *
          have hadd : ∀ W : World, (Op.stringOp .add ⟨t2.toArray⟩ ⟨#[10, 9]⟩).run Try.prog W = .ok (.string (⟨t2.toArray⟩ ++ ⟨#[10, 9]⟩)) W := fun W => run_string_add_sum (P := Try.prog) W _ _ (by simp [ByteArray.size]; omega)
          by_cases hc : ch = 32
          · have hcb : ((ch.toNat : Int) == 32) = true := by rw [hc]; rfl
            have hk7 := inM_lt by_ 7 (by omega)
            have hw2 : IntKind.i64.wrap ((i : Int) + (inM by_ 7 : Int)) = (i : Int) + (inM by_ 7 : Int) := Go.IntWalk.i64_in _ (by omega)
            have hre : ((i : Int) + (inM by_ 7 : Int)) % 7 = (((i + inM by_ 7) % 7 : Nat) : Int) := by omega
            have Hc := Lib.hid hc
            by_cases hk : (i + inM by_ 7) % 7 = 0
            · have hre0 : (((i : Int) + (inM by_ 7 : Int)) % 7 == 0) = true := by rw [hre, hk]; rfl
              have Hk := Lib.hid hk
              clear hk hc hre
              go_wp2_with fail
              refine (within6_to _ by_ 7 (by omega) (by omega)).mono ?_
              rintro e w' ⟨rfl, rfl⟩
              rw [show (7 : Int).toNat = 7 from rfl]
              go_wp2
              go_roundw
              case rel =>
                refine ⟨i + 1, by go_num, hlt, ?_, HO.out⟩
                rw [Hmo2.out, if_pos ⟨Hc.out, Hk.out⟩]
                exact congrArg Value.string (append_list t2 [10, 9])
              case measure => simp [intOf]; omega
            · have hre0 : (((i : Int) + (inM by_ 7 : Int)) % 7 == 0) = false := by rw [hre]; simp; omega
              have Hk := Lib.hid hk
              clear hk hc hre
              go_wp2_with fail
              refine (within6_to _ by_ 7 (by omega) (by omega)).mono ?_
              rintro e w' ⟨rfl, rfl⟩
              rw [show (7 : Int).toNat = 7 from rfl]
              go_wp2
              go_roundw
              case rel =>
                refine ⟨i + 1, by go_num, hlt, ?_, HO.out⟩
                rw [Hmo2.out, if_neg (fun h => Hk.out h.2), List.append_nil]
              case measure => simp [intOf]; omega
          · have hcb : ((ch.toNat : Int) == 32) = false := by
              have : ch.toNat ≠ 32 := fun h => hc (UInt8.toNat_inj.1 h)
              simp; omega
            have Hc := Lib.hid hc
            clear hc
            go_wp2
            go_roundw
            case rel =>
              refine ⟨i + 1, by go_num, hlt, ?_, HO.out⟩
              rw [Hmo2.out, if_neg (fun h => Hc.out h.1), List.append_nil]
            case measure => simp [intOf]; omega
        · have hlti : ¬ (i : Int) < (s.length : Int) := by omega
          have htk : s.take i = s := List.take_of_length_le (by omega)
          rw [htk]
          obtain ⟨hm1, hm2⟩ := Hm.out
          have hml : (moreM (inM by_ 7) 0 s).length ≤ 100000 := by omega
          clear htk
          generalize htt : moreM (inM by_ 7) 0 s = tt at *
          have Htt := Lib.hid htt
          clear htt
          go_wp2_with fail
          refine (pparse_any wr s (by omega)).mono ?_
          rintro e w5 ⟨vv, vl, vf, rfl, hQ1, hO5⟩
          generalize hX1 : parseM s = X1 at *
          obtain ⟨Q1, n1, e1⟩ := X1
          simp only at hQ1 ⊢
          have HQ1 := Lib.hid hQ1
          have HX1 := Lib.hid hX1
          obtain ⟨⟨av1, cv1, rfl, -⟩, ⟨al1, cl1, rfl, -⟩, ⟨af1, cf1, rfl, -⟩⟩ := hQ1
          have hOa := (Only.refl [] w5).alloc (.cells #[.slice av1 Q1.vars.length cv1, .slice al1 Q1.locks.length cl1, .slice af1 Q1.funcs.length cf1] 30)
          have hb1 := IsBlk.made w5 (.cells #[.slice av1 Q1.vars.length cv1, .slice al1 Q1.locks.length cl1, .slice af1 Q1.funcs.length cf1] 30)
          have HO5 := Lib.hid ((HO.out.plus hO5).plus hOa)
          have HQ1a := Lib.hid (HQ1.out.more hOa)
          have Hb1 := Lib.hid hb1
          clear hX1 hO5 hOa hb1 HQ1
          go_upto_region 14 with fail
          generalize hW6 : w5.alloc (.cells #[.slice av1 Q1.vars.length cv1, .slice al1 Q1.locks.length cl1, .slice af1 Q1.funcs.length cf1] 30) = w6 at *
          clear hW6
          generalize w5.heap.size = q1 at *
          go_wp2_with fail
          refine (pparse_any w6 tt hml).mono ?_
          rintro e w7 ⟨vv, vl, vf, rfl, hQ2, hO7⟩
          generalize hX2 : parseM tt = X2 at *
          obtain ⟨Q2, n2, e2⟩ := X2
          simp only at hQ2 ⊢
          have HQ2 := Lib.hid hQ2
          have HX2 := Lib.hid hX2
          obtain ⟨⟨av2, cv2, rfl, -⟩, ⟨al2, cl2, rfl, -⟩, ⟨af2, cf2, rfl, -⟩⟩ := hQ2
          have hOa := (Only.refl [] w7).alloc (.cells #[.slice av2 Q2.vars.length cv2, .slice al2 Q2.locks.length cl2, .slice af2 Q2.funcs.length cf2] 30)
          have hb2 := IsBlk.made w7 (.cells #[.slice av2 Q2.vars.length cv2, .slice al2 Q2.locks.length cl2, .slice af2 Q2.funcs.length cf2] 30)
          have hO78 := hO7.plus hOa
          have HO8 := Lib.hid ((HO5.out.plus hO7).plus hOa)
          have HQ1b := Lib.hid (HQ1a.out.more hO78)
          have HQ2b := Lib.hid (HQ2.out.more hOa)
          have Hb2 := Lib.hid hb2
          have Hb1b := Lib.hid (Hb1.out.only hO78 (by simp))
          clear hX2 hO7 hOa hb2 hO78 HQ2 HQ1a Hb1
          go_upto_region 15 with fail
          generalize hW8 : w7.alloc (.cells #[.slice av2 Q2.vars.length cv2, .slice al2 Q2.locks.length cl2, .slice af2 Q2.funcs.length cf2] 30) = w8 at *
          clear hW8
          generalize w7.heap.size = q2 at *
          by_cases h2k : tt.length ≤ 2000
          · have h2i : ¬ (2000 : Int) < (tt.length : Int) := by omega
            obtain ⟨Qa, g1, g2⟩ := Hp1.out (by omega)
            injection g1 with g3 g4
            injection g4 with g5 g6
            subst g3 g5 g6
            obtain ⟨Qb, k1, k2⟩ := Hp2.out h2k
            injection k1 with k3 k4
            injection k4 with k5 k6
            subst k3 k5 k6
            obtain ⟨r1, r2, r3, r4⟩ := HBk.out _ g2
            obtain ⟨u1, u2, u3, u4⟩ := HBk.out _ k2
            have HS : Hid (∀ W, Only [] w8 W → Calls Try.prog 25 #[.agg #[.slice av1 Q1.vars.length cv1, .slice al1 Q1.locks.length cl1, .slice af1 Q1.funcs.length cf1], .agg #[.slice av2 Q2.vars.length cv2, .slice al2 Q2.locks.length cl2, .slice af2 Q2.funcs.length cf2]] W fun e w' => e = .returned (.bool true) ∧ Only [] W w') := Lib.hid (fun W hW => by
              have h := same_any W _ _ _ _ _ _ Q1 Q2 (HQ1b.out.more hW) (HQ2b.out.more hW) (fun f hf => (r1 f hf).1) (fun f hf => (u1 f hf).1) ⟨by omega, by omega, by omega⟩
              rw [sameP_iff, show decide (eraseP Q1 = eraseP Q2) = true from by simp [g2, k2]] at h
              exact h)
            have HT1 : Hid (∀ W, Only [] w8 W → Calls Try.prog 22 #[.agg #[.slice av1 Q1.vars.length cv1, .slice al1 Q1.locks.length cl1, .slice af1 Q1.funcs.length cf1]] W fun e w' => e = .returned (encStr s) ∧ Only [] W w') := Lib.hid (fun W hW => by
              have h := ptext_any W _ _ _ Q1 (HQ1b.out.more hW) (by have := (Htl.out Q1 g2).1; omega) r1 ⟨by omega, by omega, by omega⟩
              rw [(Htl.out Q1 g2).2] at h
              exact h)
            have HT2 : Hid (∀ W, Only [] w8 W → Calls Try.prog 22 #[.agg #[.slice av2 Q2.vars.length cv2, .slice al2 Q2.locks.length cl2, .slice af2 Q2.funcs.length cf2]] W fun e w' => e = .returned (encStr s) ∧ Only [] W w') := Lib.hid (fun W hW => by
              have h := ptext_any W _ _ _ Q2 (HQ2b.out.more hW) (by have := (Htl.out Q2 k2).1; omega) u1 ⟨by omega, by omega, by omega⟩
              rw [(Htl.out Q2 k2).2] at h
              exact h)
            have hcl : ∀ W, Only [] w8 W → W.cell? ⟨q1, 0, none⟩ = some (.slice av1 Q1.vars.length cv1) ∧ W.cell? ⟨q1, 1, none⟩ = some (.slice al1 Q1.locks.length cl1) ∧ W.cell? ⟨q1, 2, none⟩ = some (.slice af1 Q1.funcs.length cf1) ∧ W.cell? ⟨q2, 0, none⟩ = some (.slice av2 Q2.vars.length cv2) ∧ W.cell? ⟨q2, 1, none⟩ = some (.slice al2 Q2.locks.length cl2) ∧ W.cell? ⟨q2, 2, none⟩ = some (.slice af2 Q2.funcs.length cf2) := fun W hW => ⟨(Hb1b.out.only hW (by simp)).cell 0, (Hb1b.out.only hW (by simp)).cell 1, (Hb1b.out.only hW (by simp)).cell 2, (Hb2.out.only hW (by simp)).cell 0, (Hb2.out.only hW (by simp)).cell 1, (Hb2.out.only hW (by simp)).cell 2⟩
            have Hcl := Lib.hid hcl
            clear hcl r1 r2 r3 r4 u1 u2 u3 u4 g2 k2
            go_upto_region 17 with fail
            have hdr : Only [] w8 w8.drew := (Only.refl [] w8).drew
            have hall := Hcl.out _ hdr
            have hss : (s == s) = true := beq_self_eq_true _
            go_region_held3 (fun W => W.cell? ⟨q1, 0, none⟩ = some (.slice av1 Q1.vars.length cv1) ∧ W.cell? ⟨q1, 1, none⟩ = some (.slice al1 Q1.locks.length cl1) ∧ W.cell? ⟨q1, 2, none⟩ = some (.slice af1 Q1.funcs.length cf1) ∧ W.cell? ⟨q2, 0, none⟩ = some (.slice av2 Q2.vars.length cv2) ∧ W.cell? ⟨q2, 1, none⟩ = some (.slice al2 Q2.locks.length cl2) ∧ W.cell? ⟨q2, 2, none⟩ = some (.slice af2 Q2.funcs.length cf2)) (first | exact hall | exact hallA | exact hallB | exact hallC)
              (first
                | (go_at_call 25
                   with_reducible refine (HS.out _ ?_).mono ?_
                   · assumption
                   rintro e wA ⟨rfl, hOA⟩
                   have hOwA : Only [] w8 wA := Only.plus (by assumption) hOA
                   have hallA := Hcl.out wA hOwA
                   have HOwA := Lib.hid hOwA
                   (try unfold encStr))
                | (go_at_call 22
                   with_reducible refine (HT1.out _ ?_).mono ?_
                   · assumption
                   rintro e wB ⟨rfl, hOB⟩
                   have hOwB : Only [] w8 wB := Only.plus (by assumption) hOB
                   have hallB := Hcl.out wB hOwB
                   have HOwB := Lib.hid hOwB
                   (try unfold encStr))
                | (go_at_call 22
                   with_reducible refine (HT2.out _ ?_).mono ?_
                   · assumption
                   rintro e wC ⟨rfl, hOC⟩
                   have hOwC : Only [] w8 wC := Only.plus (by assumption) hOC
                   have hallC := Hcl.out wC hOwC
                   have HOwC := Lib.hid hOwC
                   unfold encStr))
            all_goals
              go_wp2
              go_ret
              first
                | exact ⟨rfl, (HO4.out.plus HO8.out).plus HOwC.out⟩
                | exact ⟨rfl, (HO4.out.plus HO8.out).plus HOwB.out⟩
          · have h2i : (2000 : Int) < (tt.length : Int) := by omega
            go_wp2
            go_ret
            exact ⟨rfl, HO4.out.plus HO8.out⟩
    · rw [show decide (sizeM b 0 ≤ 40) = false from by simp [hfb]]
      clear hfb
      go_wp2
      go_ret
      exact ⟨rfl, HO2.out⟩
  · rw [show decide (sizeM a 0 ≤ 40) = false from by simp [hfa]]
    clear hfa
    go_wp2
    go_ret
    exact ⟨rfl, HO1.out⟩

theorem pblanks_row (a0 : Option Addr) (len0 cap0 : Nat) (l0 : RawM) (a1 : Option Addr) (len1 cap1 : Nat) (l1 : RawM) (z : Int) (w : World) (h0 : RawAt w (.slice a0 len0 cap0) l0) (h1 : RawAt w (.slice a1 len1 cap1) l1) :
    Calls Try.prog 9 #[.slice a0 len0 cap0, .slice a1 len1 cap1, .int .i64 z] w fun e w' => e = .returned (.bool true) ∧ Only [] w w' := pblanks_walk _ _ l0 l1 z w h0 h1

end Go.Proofs.Ytonpfmhdefhhmaa
