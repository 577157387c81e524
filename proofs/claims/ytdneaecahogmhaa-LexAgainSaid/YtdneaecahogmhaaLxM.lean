/-
  Where tokens stand in their text; the walk of the law LexAgain: it returns true, whatever its arguments are, and turns nothing that was there.
-/
import Derived.Test.YtdneaecahogmhaaLxL
namespace Go.Proofs.Ytdneaecahogmhaa
set_option maxRecDepth 100000
set_option linter.unusedVariables false
open Go.RowKit Go.Sort

/-- A token's text, as it is written. -/
def ttM (t : Tok) : List UInt8 := if t.kind = 2 then [123] else if t.kind = 3 then [125] else t.s
def WfT (t : Tok) : Prop := (t.kind = 1 ∧ ∃ c r, t.s = c :: r ∧ letB c = true ∧ r.all alnB = true) ∨ (t.kind = 2 ∧ t.s = []) ∨ (t.kind = 3 ∧ t.s = [])
theorem WfT.word {t : Tok} (h : WfT t) : WordOk (ttM t) ∧ kt (ttM t) = (t.kind, t.s) ∧ ttM t ≠ [] := by
  rcases h with ⟨h1, c, r, h2, hc, hr⟩ | ⟨h1, h2⟩ | ⟨h1, h2⟩
  · have e : ttM t = c :: r := by simp [ttM, h1, h2]
    rw [e, h1, h2]
    refine ⟨.inr (.inr ⟨c, r, rfl, hc, hr⟩), ?_, by simp⟩
    unfold kt
    rw [if_neg (fun e => by injection e with e1 e2; subst e1; simp [letB] at hc), if_neg (fun e => by injection e with e1 e2; subst e1; simp [letB] at hc)]
  · have e : ttM t = [123] := by simp [ttM, h1]
    rw [e, h1, h2]
    exact ⟨.inl rfl, rfl, by simp⟩
  · have e : ttM t = [125] := by simp [ttM, h1]
    rw [e, h1, h2]
    exact ⟨.inr (.inl rfl), rfl, by simp⟩

/-- Tokens that stand in s, one behind another, from e on. -/
def Placed (s : List UInt8) : Nat → List Tok → Prop
  | _, [] => True
  | e, t :: r => e ≤ t.at_ ∧ t.at_ + (ttM t).length ≤ s.length ∧ (s.drop t.at_).take (ttM t).length = ttM t ∧ WfT t ∧ Placed s (t.at_ + (ttM t).length) r

theorem placed_tokF (s : List UInt8) : ∀ (f i e : Nat), e ≤ i → i ≤ s.length → Placed s e (tokF f i (s.drop i)).1
  | 0, i, e, he, hi => by simp [tokF, Placed]
  | f + 1, i, e, he, hi => by
    by_cases hlt : i < s.length
    · have hd := List.drop_eq_getElem_cons hlt
      by_cases hl : letB s[i] = true
      · have hrow : (tokF (f + 1) i (s.drop i)).1 = ⟨1, i, rowM (s.drop i)⟩ :: (tokF f (i + (rowM (s.drop i)).length) (s.drop (i + (rowM (s.drop i)).length))).1 := by
          rw [← List.drop_drop]
          generalize hx : s.drop i = x at *
          rw [hd, tokF, if_pos hl]
        have h2 := (row_pre (s.drop i))
        have h3 : i + (rowM (s.drop i)).length ≤ s.length := by have := h2.2; rw [List.length_drop] at this; omega
        rw [hrow]
        have e1 : ttM ⟨1, i, rowM (s.drop i)⟩ = rowM (s.drop i) := rfl
        refine ⟨he, by rw [e1]; exact h3, by rw [e1]; exact h2.1.symm, .inl ⟨rfl, s[i], (s.drop (i + 1)).takeWhile alnB, ?_, hl, ?_⟩, ?_⟩
        · show rowM (s.drop i) = _
          rw [hd, rowM, if_pos hl]
        · rw [List.all_eq_true]; exact takeWhile_all _
        · rw [e1]
          exact placed_tokF s f _ _ (Nat.le_refl _) h3
      · have ih := fun e he => placed_tokF s f (i + 1) e he (by omega)
        have hone : (s.drop i).take 1 = [s[i]] := by rw [hd]; rfl
        rw [hd, tokF, if_neg hl]
        split
        · rename_i h
          have hc : s[i] = 123 := UInt8.toNat_inj.1 h
          exact ⟨he, by show i + 1 ≤ _; omega, by show (s.drop i).take 1 = [123]; rw [hone, hc], .inr (.inl ⟨rfl, rfl⟩), ih _ (Nat.le_refl _)⟩
        · split
          · rename_i h
            have hc : s[i] = 125 := UInt8.toNat_inj.1 h
            exact ⟨he, by show i + 1 ≤ _; omega, by show (s.drop i).take 1 = [125]; rw [hone, hc], .inr (.inr ⟨rfl, rfl⟩), ih _ (Nat.le_refl _)⟩
          · split
            · exact ih e (by omega)
            · trivial
    · rw [List.drop_eq_nil_of_le (by omega)]
      simp [tokF, Placed]
theorem Placed.wf {s : List UInt8} : ∀ {l : List Tok} {e : Nat}, Placed s e l → ∀ t ∈ l, WfT t
  | [], _, _, t, h => by cases h
  | x :: r, e, hp, t, h => by
    rcases List.mem_cons.1 h with rfl | h
    · exact hp.2.2.2.1
    · exact Placed.wf hp.2.2.2.2 t h

/-- Tokens, written with a blank ahead of each. -/
def againP (l : List Tok) : List (List UInt8 × List UInt8) := l.map fun t => ([32], ttM t)
theorem again_snoc (l : List Tok) (t : Tok) : flatP (againP (l ++ [t])) = flatP (againP l) ++ 32 :: ttM t := by simp [againP, flatP]
theorem again_toks (l : List Tok) (h : ∀ t ∈ l, WfT t) (hl : (flatP (againP l)).length ≤ 2000) : ∃ m, tokM (flatP (againP l)) = (m, 0, 0) ∧ m.map (fun t => (t.kind, t.s)) = l.map (fun t => (t.kind, t.s)) := by
  obtain ⟨m, h1, h2⟩ := tokM_flat (againP l) (fun p hp => by
    simp only [againP, List.mem_map] at hp
    obtain ⟨t, ht, rfl⟩ := hp
    exact ⟨⟨by simp, by show ([32] : List UInt8).all blankB = true; decide⟩, (h t ht).word.1⟩) hl
  refine ⟨m, h1, ?_⟩
  rw [h2, againP, List.map_map]
  exact List.map_congr_left (fun t ht => (h t ht).word.2.1)
/-- A text's tokens, or where it is none. -/
theorem tokM_cases (s : List UInt8) (hs : s.length ≤ 2000) : (∃ l, tokM s = (l, 0, 0) ∧ Placed s 0 l) ∨ ∃ i, tokM s = ([], i, 6) := by
  have h := placed_tokF s s.length 0 0 (Nat.le_refl _) (Nat.zero_le _)
  rw [List.drop_zero] at h
  unfold tokM
  rw [if_neg (by omega)]
  generalize tokF s.length 0 s = x at *
  obtain ⟨l, o⟩ := x
  cases o with
  | none => exact .inl ⟨l, rfl, h⟩
  | some i => exact .inr ⟨i, rfl⟩

theorem cut_str (s wd : List UInt8) (i : Nat) (j : Int) (hj : j = (i : Int) + (wd.length : Int)) (h : i + wd.length ≤ s.length) (he : (s.drop i).take wd.length = wd) (W : World) :
    (Instr.slice 9 (.string ⟨s.toArray⟩) (some (.int .i64 i)) (some (.int .i64 j)) none).run Try.prog W = .ok (.string ⟨wd.toArray⟩) W := by
  subst hj
  have hsz : (⟨s.toArray⟩ : ByteArray).size = s.length := by simp [ByteArray.size]
  rw [run_slice_string (P := Try.prog) W 9 ⟨s.toArray⟩ .i64 .i64 i ((i : Int) + (wd.length : Int)) Try.underlying9 (by omega) (by omega) (by rw [hsz]; omega), extract_list]
  rw [show ((i : Int) + (wd.length : Int)).toNat - ((i : Int)).toNat = wd.length by omega, Int.toNat_natCast, he]

set_option maxHeartbeats 16000000 in
theorem again_walk (a : Option Addr) (len cap : Nat) (ns : List Int) (w : World) (h : IntsArg w a len ns) :
    Calls Try.prog 5 #[.slice a len cap] w fun e w' => e = .returned (.bool true) ∧ Only [] w w' := by
  have H := Lib.hid h
  clear h
  go_enter Try.func5, Try.ntmps5
  go_wp2_with fail
  refine (known5_any _).mono ?_
  rintro e w0 ⟨rfl, hO0⟩
  have HO0 := Lib.hid hO0
  clear hO0
  go_wp2_with fail
  refine (text_any _ a len cap ns (H.out.1.more HO0.out) H.out.2).mono ?_
  rintro e w1 ⟨rfl, hO1⟩
  have HO1 := Lib.hid (HO0.out.plus hO1)
  have hsl : (textM ns (min len 150)).length ≤ 1950 := by have := textM_len ns (min len 150); omega
  clear hO1
  unfold encStr
  generalize textM ns (min len 150) = s at *
  go_wp2_with fail
  refine (tokens_any _ s (by omega)).mono ?_
  rintro e w2 ⟨v2, rfl, hv2, hO2⟩
  have hll := tokM_len s
  rcases tokM_cases s (by omega) with ⟨l, e1, hpl⟩ | ⟨i, e1⟩
  · rw [e1] at hv2 hll ⊢
    obtain ⟨a2, c2, rfl, ht2⟩ := hv2.toks
    have Ht2 := Lib.hid ht2
    have HO2 := Lib.hid (HO1.out.plus hO2)
    have Hpl := Lib.hid hpl
    have Hwf := Lib.hid hpl.wf
    simp only at hll
    clear hv2 ht2 hO2 e1 hpl
    go_wp2_with fail
    go_loopw [7, 8, 9] (fun t en i wr => ∃ (j e : Nat), j ≤ l.length ∧ i = .int .i64 j ∧ en = .int .i64 e ∧ t = .string ⟨(flatP (againP (l.take j))).toArray⟩ ∧ (flatP (againP (l.take j))).length ≤ e + j ∧ e ≤ s.length ∧ Hid (Placed s e (l.drop j)) ∧ Only [] w2 wr) (fun _ _ i _ => l.length - (intOf i).toNat)
    case atStart => exact ⟨0, 0, by omega, rfl, rfl, rfl, by simp [againP, flatP], by omega, Hpl, Only.refl _ _⟩
    case round =>
      obtain ⟨j, e, hj, rfl, rfl, rfl, htl, hes, hpj, hO⟩ := hrel
      have HO := Lib.hid hO
      clear hO
      by_cases hlt : j < l.length
      · have hlti : (j : Int) < (l.length : Int) := by omega
        obtain ⟨g, rfl, hba, hca⟩ := (Ht2.out.more HO.out) (by omega)
        obtain ⟨c0, c1, c2⟩ := hca j _ (List.getElem?_eq_getElem hlt)
        have hp := hpj.out
        rw [List.drop_eq_getElem_cons hlt] at hp
        obtain ⟨p1, p2, p3, p4, p5⟩ := hp
        have Hp5 := Lib.hid p5
        have Hsn : Hid (flatP (againP (l.take (j + 1))) = flatP (againP (l.take j)) ++ 32 :: ttM l[j]) := Lib.hid (by rw [List.take_add_one, List.getElem?_eq_getElem hlt]; exact again_snoc _ _)
        clear hpj p5 hca
        generalize l[j] = f at *
        generalize flatP (againP (l.take j)) = tx at *
        obtain ⟨fk, fa, fs⟩ := f
        unfold encStr at c2
        simp only at c0 c1 c2 p1 p2 p3 Hp5
        have Hne := Lib.hid p4.word.2.2
        have Hsub := Lib.hid p3
        rcases p4 with ⟨q1, cc, rr, q2, -, -⟩ | ⟨q1, q2⟩ | ⟨q1, q2⟩
        · simp only at q1 q2
          subst q1
          have ett : ttM ⟨1, fa, fs⟩ = fs := rfl
          rw [ett] at p2 Hne Hsub Hp5 Hsn
          clear p3 q2 ett
          have hcut : ∀ W : World, (Instr.slice 9 (.string ⟨s.toArray⟩) (some (.int .i64 fa)) (some (.int .i64 ((fa : Int) + (fs.length : Int)))) none).run Try.prog W = .ok (.string ⟨fs.toArray⟩) W := cut_str s fs fa _ rfl p2 Hsub.out
          have happ1 : (⟨tx.toArray⟩ : ByteArray) ++ ⟨#[32]⟩ = ⟨(tx ++ [32]).toArray⟩ := append_list tx [32]
          have happ2 : (⟨(tx ++ [32]).toArray⟩ : ByteArray) ++ ⟨fs.toArray⟩ = ⟨(tx ++ 32 :: fs).toArray⟩ := by rw [append_list, List.append_assoc]; rfl
          have hne : (fs == []) = false := by have := Hne.out; simpa using this
          have p1i : ¬ (fa : Int) < (e : Int) := by omega
          have p2i : ¬ (s.length : Int) < (fa : Int) + (fs.length : Int) := by omega
          have hwr : IntKind.i64.wrap ((fa : Int) + (fs.length : Int)) = (fa : Int) + (fs.length : Int) := IntWalk.i64_in _ (by omega)
          have p2d : decide ((s.length : Int) < (fa : Int) + (fs.length : Int)) = false := decide_eq_false p2i
          go_wp2_with fail
          go_quiet (fail)
          go_wp2
          go_roundw
          case rel => exact ⟨j + 1, fa + fs.length, by omega, by go_num, by go_num, by rw [Hsn.out], by rw [Hsn.out, List.length_append, List.length_cons]; omega, by omega, Hp5, HO.out.plus ((Only.refl [] wr).drewN _)⟩
          case measure => simp [intOf]; omega
        · simp only at q1 q2
          subst q1
          subst q2
          have ett : ttM ⟨2, fa, []⟩ = [123] := rfl
          rw [ett] at p2 Hne Hsub Hp5 Hsn
          simp only [List.length_cons, List.length_nil, Nat.zero_add] at p2 Hp5 Hsub
          clear p3 ett
          have hcut : ∀ W : World, (Instr.slice 9 (.string ⟨s.toArray⟩) (some (.int .i64 fa)) (some (.int .i64 ((fa : Int) + 1))) none).run Try.prog W = .ok (.string ⟨#[123]⟩) W := cut_str s [123] fa _ rfl p2 Hsub.out
          have happ1 : (⟨tx.toArray⟩ : ByteArray) ++ ⟨#[32]⟩ = ⟨(tx ++ [32]).toArray⟩ := append_list tx [32]
          have happ2 : (⟨(tx ++ [32]).toArray⟩ : ByteArray) ++ ⟨#[123]⟩ = ⟨(tx ++ 32 :: [123]).toArray⟩ := by
            have := append_list (tx ++ [32]) [123]
            rw [List.append_assoc] at this
            exact this
          have p1i : ¬ (fa : Int) < (e : Int) := by omega
          have p2i : ¬ (s.length : Int) < (fa : Int) + 1 := by omega
          have hwr : IntKind.i64.wrap ((fa : Int) + 1) = (fa : Int) + 1 := IntWalk.i64_in _ (by omega)
          have p2d : decide ((s.length : Int) < (fa : Int) + 1) = false := decide_eq_false p2i
          go_wp2_with fail
          go_quiet (fail)
          go_wp2
          go_roundw
          case rel => exact ⟨j + 1, fa + 1, by omega, by go_num, by go_num, by rw [Hsn.out], by rw [Hsn.out, List.length_append, List.length_cons, List.length_cons, List.length_nil]; omega, by omega, Hp5, HO.out.plus ((Only.refl [] wr).drewN _)⟩
          case measure => simp [intOf]; omega
        · simp only at q1 q2
          subst q1
          subst q2
          have ett : ttM ⟨3, fa, []⟩ = [125] := rfl
          rw [ett] at p2 Hne Hsub Hp5 Hsn
          simp only [List.length_cons, List.length_nil, Nat.zero_add] at p2 Hp5 Hsub
          clear p3 ett
          have hcut : ∀ W : World, (Instr.slice 9 (.string ⟨s.toArray⟩) (some (.int .i64 fa)) (some (.int .i64 ((fa : Int) + 1))) none).run Try.prog W = .ok (.string ⟨#[125]⟩) W := cut_str s [125] fa _ rfl p2 Hsub.out
          have happ1 : (⟨tx.toArray⟩ : ByteArray) ++ ⟨#[32]⟩ = ⟨(tx ++ [32]).toArray⟩ := append_list tx [32]
          have happ2 : (⟨(tx ++ [32]).toArray⟩ : ByteArray) ++ ⟨#[125]⟩ = ⟨(tx ++ 32 :: [125]).toArray⟩ := by
            have := append_list (tx ++ [32]) [125]
            rw [List.append_assoc] at this
            exact this
          have p1i : ¬ (fa : Int) < (e : Int) := by omega
          have p2i : ¬ (s.length : Int) < (fa : Int) + 1 := by omega
          have hwr : IntKind.i64.wrap ((fa : Int) + 1) = (fa : Int) + 1 := IntWalk.i64_in _ (by omega)
          have p2d : decide ((s.length : Int) < (fa : Int) + 1) = false := decide_eq_false p2i
          go_wp2_with fail
          go_quiet (fail)
          go_wp2
          go_roundw
          case rel => exact ⟨j + 1, fa + 1, by omega, by go_num, by go_num, by rw [Hsn.out], by rw [Hsn.out, List.length_append, List.length_cons, List.length_cons, List.length_nil]; omega, by omega, Hp5, HO.out.plus ((Only.refl [] wr).drewN _)⟩
          case measure => simp [intOf]; omega
      · have hge : ¬ (j : Int) < (l.length : Int) := by omega
        have hjl : j = l.length := by omega
        rw [hjl, List.take_length] at htl
        subst hjl
        rw [List.take_length]
        have Hag : Hid ((flatP (againP l)).length ≤ 2000 → ∃ m, tokM (flatP (againP l)) = (m, 0, 0) ∧ m.map (fun t => (t.kind, t.s)) = l.map (fun t => (t.kind, t.s))) := Lib.hid (again_toks l Hwf.out)
        generalize flatP (againP l) = tx at *
        by_cases hbig : 2000 < tx.length
        · have hbigi : (2000 : Int) < (tx.length : Int) := by omega
          go_wp2
          go_ret
          exact ⟨rfl, HO2.out.plus HO.out⟩
        have hbigi : ¬ (2000 : Int) < (tx.length : Int) := by omega
        obtain ⟨m, e2, hkt⟩ := Hag.out (by omega)
        obtain ⟨hlm, hsame⟩ := same_kt hkt
        have He2 := Lib.hid e2
        have Hsame := Lib.hid hsame
        clear e2 hkt hsame Hag
        go_wp2_with fail
        refine (tokens_any _ tx (by omega)).mono ?_
        rintro e w6 ⟨v6, rfl, hv6, hO6⟩
        rw [He2.out] at hv6 ⊢
        obtain ⟨a6, c6, rfl, ht6⟩ := hv6.toks
        have Ht6 := Lib.hid ht6
        have Ht56 := Lib.hid ((Ht2.out.more HO.out).more hO6)
        have HO6 := Lib.hid ((HO2.out.plus HO.out).plus hO6)
        clear hv6 ht6 hO6
        have hlmi : (m.length : Int) = (l.length : Int) := by omega
        have Hlm := Lib.hid hlm
        have hl40 : m.length ≤ 2000 := by omega
        clear hlm
        go_wp2_with fail
        go_loopw [14] (fun i wz => ∃ j : Nat, j ≤ m.length ∧ i = .int .i64 j ∧ Only [] w6 wz) (fun i _ => m.length - (intOf i).toNat)
        case atStart => exact ⟨0, by omega, rfl, Only.refl _ _⟩
        case round =>
          obtain ⟨q, hq, rfl, hOj⟩ := hrel
          rename World => wz
          have HOj := Lib.hid hOj
          clear hOj
          by_cases hltj : q < m.length
          · have hltji : (q : Int) < (m.length : Int) := by omega
            have hltm : q < l.length := by have := Hlm.out; omega
            have hltmi : (q : Int) < (l.length : Int) := by omega
            obtain ⟨ga, rfl, hba, hca⟩ := (Ht6.out.more HOj.out) (by omega)
            obtain ⟨gb, rfl, hbb, hcb⟩ := (Ht56.out.more HOj.out) (by omega)
            obtain ⟨c0, c1, c2⟩ := hca q _ (List.getElem?_eq_getElem hltj)
            obtain ⟨d0, d1, d2⟩ := hcb q _ (List.getElem?_eq_getElem hltm)
            obtain ⟨q1, q2⟩ := Hsame.out q hltj hltm
            rw [← q1] at d0
            rw [← q2] at d2
            clear q1 q2 hca hcb c1 d1
            generalize m[q] = f at *
            obtain ⟨fk, fa, fs⟩ := f
            unfold encStr at c2 d2
            simp only at c0 c2 d0 d2
            go_wp2_with fail
            go_quiet (fail)
            go_wp2
            go_roundw
            case rel => exact ⟨q + 1, by omega, by go_num, HOj.out.plus ((Only.refl [] wz).drewN _)⟩
            case measure => simp [intOf]; omega
          · have hgej : ¬ (q : Int) < (m.length : Int) := by omega
            go_wp2
            go_ret
            exact ⟨rfl, HO6.out.plus HOj.out⟩
  · rw [e1] at hv2 ⊢
    obtain ⟨a2, c2, rfl, -⟩ := hv2.toks
    have HO2 := Lib.hid (HO1.out.plus hO2)
    clear hv2 hO2 e1
    go_wp2
    go_ret
    exact ⟨rfl, HO2.out⟩

end Go.Proofs.Ytdneaecahogmhaa
