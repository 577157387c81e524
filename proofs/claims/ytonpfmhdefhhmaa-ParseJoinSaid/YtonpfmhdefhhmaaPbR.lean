/-
  The walk of the law ParseJoin.
-/
import Derived.Test.YtonpfmhdefhhmaaPbQ
namespace Go.Proofs.Ytonpfmhdefhhmaa
set_option maxRecDepth 100000
set_option linter.unusedVariables false
open Go.RowKit Go.Sort

theorem decls_open {w : World} {v : Value} {l : List DeclM} (h : DeclsAt w v l) (h0 : 0 < l.length) : ∃ g c, v = .slice (some ⟨g, 0, none⟩) l.length c ∧ g < w.heap.size ∧ w.rangeAt g 0 (dcells l) := by
  obtain ⟨a, c, rfl, _, h⟩ := h
  obtain ⟨g, rfl, hg, hr⟩ := h h0
  exact ⟨g, c, rfl, hg, hr⟩
theorem funcs_open {w : World} {v : Value} {l : List FuncM} (h : FuncsAt w v l) (h0 : 0 < l.length) : ∃ g c xs fp, v = .slice (some ⟨g, 0, none⟩) l.length c ∧ g < w.heap.size ∧ w.rangeAt g 0 xs ∧ EncF w l xs fp := by
  obtain ⟨a, c, rfl, _, h⟩ := h
  obtain ⟨g, xs, fp, rfl, hg, hr, he⟩ := h h0
  exact ⟨g, c, xs, fp, rfl, hg, hr, he⟩
theorem eraseD_first {l : List DeclM} {d : DeclM} {r : List DeclM} (h : eraseD l = d :: r) : ∃ t, dcells l = encStr d.name :: t := by
  cases l with
  | nil => cases h
  | cons x l => injection h with h _; subst h; exact ⟨_, rfl⟩
theorem eraseF_first {l : List FuncM} {d : FuncM} {r : List FuncM} (h : eraseF l = d :: r) {w : World} {xs : List Value} {fp : List Nat} (he : EncF w l xs fp) : ∃ t, xs = encStr d.name :: t := by
  cases l with
  | nil => cases h
  | cons x l =>
    injection h with h _
    subst h
    obtain ⟨va, fa, fr, xr, rfl, -⟩ := he
    exact ⟨_, rfl⟩
theorem join_firsts {a b : RawM} {P : ProgM} (h : eraseP P = eraseP (progR a b .nil .nil 1)) :
    (∃ t, dcells P.vars = encStr [120] :: t) ∧ (∃ t, dcells P.locks = encStr [108] :: t) ∧ ∀ w xs fp, EncF w P.funcs xs fp → ∃ t, xs = encStr mainW :: t := by
  have h1 : eraseD P.vars = _ := congrArg ProgM.vars h
  have h2 : eraseD P.locks = _ := congrArg ProgM.locks h
  have h3 : eraseF P.funcs = _ := congrArg ProgM.funcs h
  exact ⟨eraseD_first h1, eraseD_first h2, fun w xs fp he => eraseF_first h3 he⟩
def joinT : Nat → Option Value
  | 6 => some (encStr [120])
  | 13 => some (encStr [108])
  | 20 => some (encStr mainW)
  | _ => none
theorem joinT_at {k : Nat} {x : Value} (h : joinT k = some x) : (k = 6 ∧ x = encStr [120]) ∨ (k = 13 ∧ x = encStr [108]) ∨ (k = 20 ∧ x = encStr mainW) := by
  unfold joinT at h
  split at h
  · exact .inl ⟨rfl, (Option.some.inj h).symm⟩
  · exact .inr (.inl ⟨rfl, (Option.some.inj h).symm⟩)
  · exact .inr (.inr ⟨rfl, (Option.some.inj h).symm⟩)
  · cases h
theorem own_word {base : Nat} {e : TypeId} {s n : Nat} {x : Value} {xs : List Value} {v : Value} {w : World} (h : (OwnSP base e s n x xs).p v w) : w.ownsRow base e s v n (x :: xs) := h
theorem ptr_tag {v : Value} {w w' : World} {base base' : Nat} {T : TypeId} {s : List UInt8} (h : ∃ g, v = .pointer (some ⟨g, 0, none⟩) ∧ IsBlk w g (.cells #[.slice none 0 0, .slice none 0 0, .slice none 0 0] T) ∧ base' ≤ g) (hR : TagRk base (encStr s) w w') :
    ∃ g, v = .pointer (some ⟨g, 0, none⟩) ∧ IsBlk w' g (.cells #[.slice none 0 0, .slice none 0 0, .slice none 0 0] T) ∧ base' ≤ g := by
  obtain ⟨g, rfl, hb, hg⟩ := h
  obtain ⟨g', hO, -, hc⟩ := hR
  have hne : g ≠ g' := fun e => by
    subst e
    rw [hb.cell 0] at hc
    simp [encStr] at hc
  exact ⟨g, rfl, hb.only hO (by simp [hne]), hg⟩
/-- The block of a new program is no row's. -/
theorem prog_apart {w : World} {g base s n : Nat} {T e : TypeId} {v : Value} {xs : List Value} {y : List UInt8} (hb : IsBlk w g (.cells #[.slice none 0 0, .slice none 0 0, .slice none 0 0] T)) (h : w.ownsRow base e s v n (encStr y :: xs)) : Apart v (.slice (some ⟨g, 0, none⟩) 0 0) := by
  obtain ⟨g', h1, h2, h3, h4⟩ := own_first h
  intro k hk e
  simp only [Value.ownBlock, Option.some.injEq] at e
  rw [h1] at hk
  injection hk with hk
  subst hk e
  rw [hb.cell 0] at h4
  simp [encStr] at h4
theorem made_decls {w : World} {base n : Nat} {v : Value} {l : List DeclM} (h : w.ownsRow base 59 2 v n (dcells l)) (hn : n = l.length) : DeclsAt w v l := by
  subst hn; exact owns_decls h
theorem made_funcs {w : World} {base n : Nat} {v : Value} {l : List FuncM} {xs : List Value} {fp : List Nat} (h3 : w.ownsRow base 47 3 v n xs) (hn : n = l.length) (h4 : EncF w l xs fp) : FuncsAt w v l := by
  subst hn
  rcases h3.2 with ⟨rfl, h0⟩ | ⟨g, cap, cur, rfl, hb, hg, hc, _⟩
  · exact ⟨none, 0, by rw [h0], by omega, fun hp => by omega⟩
  · refine ⟨_, cap, rfl, hc, fun _ => ⟨g, xs, fp, rfl, IsBlk.lt hg, fun j x hx => ?_, h4⟩⟩
    have := World.ownsRow.cells h3 (g := g) rfl j x hx
    rw [Addr.add_mid] at this
    exact this

set_option maxHeartbeats 16000000 in
theorem pjoin_walk (va vb vc : Value) (a b c : RawM) (w : World) (ha : RawAt w va a) (hb : RawAt w vb b) (hc : RawAt w vc c) :
    Calls Try.prog 10 #[va, vb, vc] w fun e w' => e = .returned (.bool true) ∧ Only [] w w' := by
  have Ha := Lib.hid ha
  have Hb := Lib.hid hb
  have Hc := Lib.hid hc
  obtain ⟨aa, ca, rfl, -⟩ := ha
  obtain ⟨ab, cb, rfl, -⟩ := hb
  obtain ⟨ac, cc, rfl, -⟩ := hc
  go_enter Try.func10, Try.ntmps10
  go_wp2_with fail
  refine (known6_any _).mono ?_
  rintro e w0 ⟨rfl, hO0⟩
  have HO0 := Lib.hid hO0
  clear hO0
  go_wp2_with fail
  refine (few6_any a _ _ (Ha.out.more HO0.out)).mono ?_
  rintro e w1 ⟨rfl, hO1⟩
  have HO1 := Lib.hid (HO0.out.plus hO1)
  clear hO1
  by_cases hfa : sizeM a 0 ≤ 40
  · rw [show decide (sizeM a 0 ≤ 40) = true from by simp [hfa]]
    have Hfa : Hid (FewR a) := Lib.hid hfa
    clear hfa
    go_wp2_with fail
    refine (few6_any b _ _ (Hb.out.more HO1.out)).mono ?_
    rintro e w2 ⟨rfl, hO2⟩
    have HO2 := Lib.hid (HO1.out.plus hO2)
    clear hO2
    by_cases hfb : sizeM b 0 ≤ 40
    · rw [show decide (sizeM b 0 ≤ 40) = true from by simp [hfb]]
      have Hfb : Hid (FewR b) := Lib.hid hfb
      clear hfb
      go_wp2_with fail
      refine (few6_any c _ _ (Hc.out.more HO2.out)).mono ?_
      rintro e w3 ⟨rfl, hO3⟩
      have HO3 := Lib.hid (HO2.out.plus hO3)
      clear hO3
      by_cases hfc : sizeM c 0 ≤ 40
      · rw [show decide (sizeM c 0 ≤ 40) = true from by simp [hfc]]
        have Hfc : Hid (FewR c) := Lib.hid hfc
        clear hfc
        have hnil : ∀ W, RawAt W (.slice none 0 0) .nil := fun W => ⟨none, 0, rfl, Nat.zero_le _, fun h => by simp [RawM.len] at h⟩
        have hP1 := fun W (hW : Only [] w W) => prog6_any a b .nil .nil 1 W _ _ _ _ (Ha.out.more hW) (Hb.out.more hW) (hnil W) (hnil W) (by have := few_cnt Hfa.out; omega) (by have := few_cnt Hfb.out; omega) (by simp [RawM.cnt]) (by simp [RawM.cnt])
        have hQ1 := fun W (hW : Only [] w W) => prog6_any c .nil .nil .nil 0 W _ _ _ _ (Hc.out.more hW) (hnil W) (hnil W) (hnil W) (by have := few_cnt Hfc.out; omega) (by simp [RawM.cnt]) (by simp [RawM.cnt]) (by simp [RawM.cnt])
        obtain ⟨hI, hB, hL⟩ := progR_good 1 Hfa.out Hfb.out few_nil few_nil
        obtain ⟨kI, kB, kL⟩ := progR_good 0 Hfc.out few_nil few_nil few_nil
        have hn := small_prog a b .nil .nil 1
        have kn := small_prog c .nil .nil .nil 0
        have hpa := parse_back (progR a b .nil .nil 1) hI
        have hpb := parse_back (progR c .nil .nil .nil 0) kI
        have hpc := join_parse (progR a b .nil .nil 1) (progR c .nil .nil .nil 0) hI kI
        have hfirst := fun P => join_firsts (a := a) (b := b) (P := P)
        have hlen : ∀ P, eraseP P = eraseP (progR a b .nil .nil 1) → 0 < P.vars.length ∧ 0 < P.locks.length ∧ 0 < P.funcs.length := fun P h => by
          obtain ⟨-, h1, h2, h3⟩ := back_ok h hB
          rw [h1, h2, h3]
          exact ⟨by show 0 < 3; omega, by unfold progR; simp only; split <;> simp, by unfold progR; simp only; split <;> simp⟩
        have klen : ∀ P, eraseP P = eraseP (progR c .nil .nil .nil 0) → 0 < P.vars.length ∧ 0 < P.locks.length ∧ 0 < P.funcs.length := fun P h => by
          obtain ⟨-, h1, h2, h3⟩ := back_ok h kB
          rw [h1, h2, h3]
          exact ⟨by show 0 < 3; omega, by unfold progR; simp only; split <;> simp, by unfold progR; simp only; split <;> simp⟩
        have HPa := Lib.hid hP1
        have HPb := Lib.hid hQ1
        have Hpa : Hid ((progT (progR a b .nil .nil 1)).length ≤ 2000 → ∃ P, parseM (progT (progR a b .nil .nil 1)) = (P, 0, 0) ∧ eraseP P = eraseP (progR a b .nil .nil 1)) := Lib.hid (fun h => by obtain ⟨P, h1, h2, -⟩ := hpa h; exact ⟨P, h1, h2⟩)
        have Hpb : Hid ((progT (progR c .nil .nil .nil 0)).length ≤ 2000 → ∃ P, parseM (progT (progR c .nil .nil .nil 0)) = (P, 0, 0) ∧ eraseP P = eraseP (progR c .nil .nil .nil 0)) := Lib.hid (fun h => by obtain ⟨P, h1, h2, -⟩ := hpb h; exact ⟨P, h1, h2⟩)
        have Hpc := Lib.hid hpc
        have HG := Lib.hid (And.intro hB (And.intro kB (And.intro hn (And.intro kn (And.intro hfirst (And.intro hlen klen))))))
        have HL := Lib.hid (And.intro hL kL)
        clear hnil hP1 hQ1 hI hB hL kI kB kL hn kn hpa hpb hpc hfirst hlen klen Hfa Hfb Hfc
        generalize progR a b .nil .nil 1 = P at *
        generalize progR c .nil .nil .nil 0 = Q at *
        go_wp2_with fail
        refine (HPa.out w3 HO3.out).mono ?_
        rintro e w4 ⟨pv, pl, pf, rfl, hP, hO4⟩
        obtain ⟨hB, kB, hn, kn, -⟩ := HG.out
        have hL := HL.out
        have HT := Lib.hid (rtext_any w4 pv pl pf P hP (by omega) (fun f hf => (hB f hf).2) ⟨by omega, by omega, by omega⟩)
        have HO4 := Lib.hid (HO3.out.plus hO4)
        clear hO4 hP
        go_wp2_with fail
        refine HT.out.mono ?_
        rintro e w5 ⟨rfl, hO5⟩
        have HO5 := Lib.hid (HO4.out.plus hO5)
        clear hO5 HT
        unfold encStr
        go_wp2_with fail
        refine (HPb.out w5 HO5.out).mono ?_
        rintro e w6 ⟨pv, pl, pf, rfl, hP, hO6⟩
        have HT := Lib.hid (rtext_any w6 pv pl pf Q hP (by omega) (fun f hf => (kB f hf).2) ⟨by omega, by omega, by omega⟩)
        have HO6 := Lib.hid (HO5.out.plus hO6)
        clear hO6 hP hB kB hn kn
        go_wp2_with fail
        refine HT.out.mono ?_
        rintro e w7 ⟨rfl, hO7⟩
        have HO7 := Lib.hid (HO6.out.plus hO7)
        clear hO7 HT
        unfold encStr
        generalize progT P = s at *
        generalize progT Q = t at *
        have hsl : s.length ≤ 4000 := hL.1
        have htl : t.length ≤ 4000 := hL.2
        have hw1 : IntKind.i64.wrap ((s.length : Int) + (t.length : Int)) = (s.length : Int) + (t.length : Int) := Go.IntWalk.i64_in _ (by omega)
        clear hL
        by_cases hst : s.length + t.length ≤ 2000
        · have hsi : ¬ (2000 : Int) < (s.length : Int) + (t.length : Int) := by omega
          have Hst := Lib.hid hst
          have HO := HO7
          have hsl : s.length ≤ 2000 := by omega
          have htl : t.length ≤ 2000 := by omega
          have Hsl := Lib.hid hsl
          have Htl := Lib.hid htl
          go_wp2_with fail
          clear hsi hst hw1 hsl htl
          refine (pparse_any w7 s (by have := Hsl.out; omega)).mono ?_
          rintro e u1 ⟨vv, vl, vf, rfl, hQ, hO⟩
          obtain ⟨P1, g1, g2⟩ := Hpa.out Hsl.out
          rw [g1] at hQ ⊢
          simp only at hQ ⊢
          have HQ := Lib.hid hQ
          obtain ⟨⟨a1v, c1v, rfl, -⟩, ⟨a1l, c1l, rfl, -⟩, ⟨a1f, c1f, rfl, -⟩⟩ := hQ
          have G1 := Lib.hid g2
          have hOa := (Only.refl [] u1).alloc (.cells #[.slice a1v P1.vars.length c1v, .slice a1l P1.locks.length c1l, .slice a1f P1.funcs.length c1f] 30)
          have hbq := IsBlk.made u1 (.cells #[.slice a1v P1.vars.length c1v, .slice a1l P1.locks.length c1l, .slice a1f P1.funcs.length c1f] 30)
          have HP1 := Lib.hid (HQ.out.more hOa)
          have HO1 := Lib.hid ((HO.out.plus hO).plus hOa)
          have Hu1 := Lib.hid (hO.plus hOa)
          have Hb1 := Lib.hid hbq
          clear hO HO hOa hbq HQ g1 g2
          go_upto_region 9 with fail
          generalize hW : u1.alloc (.cells #[.slice a1v P1.vars.length c1v, .slice a1l P1.locks.length c1l, .slice a1f P1.funcs.length c1f] 30) = w1 at *
          clear hW
          generalize u1.heap.size = q1 at *
          have HO := HO1
          go_wp2_with fail
          refine (pparse_any _ t (by have := Htl.out; omega)).mono ?_
          rintro e u2 ⟨vv, vl, vf, rfl, hQ, hO⟩
          obtain ⟨P2, g1, g2⟩ := Hpb.out Htl.out
          rw [g1] at hQ ⊢
          simp only at hQ ⊢
          have HQ := Lib.hid hQ
          obtain ⟨⟨a2v, c2v, rfl, -⟩, ⟨a2l, c2l, rfl, -⟩, ⟨a2f, c2f, rfl, -⟩⟩ := hQ
          have G2 := Lib.hid g2
          have hOa := (Only.refl [] u2).alloc (.cells #[.slice a2v P2.vars.length c2v, .slice a2l P2.locks.length c2l, .slice a2f P2.funcs.length c2f] 30)
          have hbq := IsBlk.made u2 (.cells #[.slice a2v P2.vars.length c2v, .slice a2l P2.locks.length c2l, .slice a2f P2.funcs.length c2f] 30)
          have HP2 := Lib.hid (HQ.out.more hOa)
          have HO2 := Lib.hid ((HO.out.plus hO).plus hOa)
          have Hu2 := Lib.hid (hO.plus hOa)
          have Hb2 := Lib.hid hbq
          clear hO HO hOa hbq HQ g1 g2
          go_upto_region 10 with fail
          generalize hW : u2.alloc (.cells #[.slice a2v P2.vars.length c2v, .slice a2l P2.locks.length c2l, .slice a2f P2.funcs.length c2f] 30) = w2 at *
          clear hW
          generalize u2.heap.size = q2 at *
          have HO := HO2
          have hadd : ∀ W : World, (Op.stringOp .add ⟨s.toArray⟩ ⟨t.toArray⟩).run Try.prog W = .ok (.string (⟨s.toArray⟩ ++ ⟨t.toArray⟩)) W := fun W => run_string_add_sum (P := Try.prog) W _ _ (by have := Hst.out; simp [ByteArray.size]; omega)
          go_wp2_with fail
          clear hadd
          rw [append_list]
          refine (pparse_any _ (s ++ t) (by have := (show (s ++ t).length ≤ 2000 by rw [List.length_append]; exact Hst.out); omega)).mono ?_
          rintro e u3 ⟨vv, vl, vf, rfl, hQ, hO⟩
          obtain ⟨P3, g1, g2⟩ := Hpc.out (show (s ++ t).length ≤ 2000 by rw [List.length_append]; exact Hst.out)
          rw [g1] at hQ ⊢
          simp only at hQ ⊢
          have HQ := Lib.hid hQ
          obtain ⟨⟨a3v, c3v, rfl, -⟩, ⟨a3l, c3l, rfl, -⟩, ⟨a3f, c3f, rfl, -⟩⟩ := hQ
          have G3 := Lib.hid g2
          have hOa := (Only.refl [] u3).alloc (.cells #[.slice a3v P3.vars.length c3v, .slice a3l P3.locks.length c3l, .slice a3f P3.funcs.length c3f] 30)
          have hbq := IsBlk.made u3 (.cells #[.slice a3v P3.vars.length c3v, .slice a3l P3.locks.length c3l, .slice a3f P3.funcs.length c3f] 30)
          have HP3 := Lib.hid (HQ.out.more hOa)
          have HO3 := Lib.hid ((HO.out.plus hO).plus hOa)
          have Hu3 := Lib.hid (hO.plus hOa)
          have Hb3 := Lib.hid hbq
          clear hO HO hOa hbq HQ g1 g2
          go_upto_region 11 with fail
          generalize hW : u3.alloc (.cells #[.slice a3v P3.vars.length c3v, .slice a3l P3.locks.length c3l, .slice a3f P3.funcs.length c3f] 30) = w3 at *
          clear hW
          generalize u3.heap.size = q3 at *
          have HO := HO3
          go_upto_region 13 with fail
          have G := HG.out
          obtain ⟨hB, kB, hn, kn, hfirst, hlen, klen⟩ := G
          obtain ⟨⟨t1v, f1v⟩, ⟨t1l, f1l⟩, f1f⟩ := hfirst P1 G1.out
          obtain ⟨n1v, n1l, n1f⟩ := hlen P1 G1.out
          obtain ⟨n2v, n2l, n2f⟩ := klen P2 G2.out
          have HP1' := HP1.out.more (Hu2.out.plus Hu3.out)
          have HP2' := HP2.out.more Hu3.out
          obtain ⟨z1, z2, z3⟩ := HP1'
          obtain ⟨b1v, d, e, b1vs, b1vr⟩ := decls_open z1 n1v
          injection e with e1 e2 e3
          subst e1 e3
          obtain ⟨b1l, d, e, b1ls, b1lr⟩ := decls_open z2 n1l
          injection e with e1 e2 e3
          subst e1 e3
          obtain ⟨b1f, d, x1f, fp1, e, b1fs, b1fr, b1fe⟩ := funcs_open z3 n1f
          injection e with e1 e2 e3
          subst e1 e3
          obtain ⟨z4, z5, z6⟩ := HP2'
          obtain ⟨b2v, d, e, b2vs, b2vr⟩ := decls_open z4 n2v
          injection e with e1 e2 e3
          subst e1 e3
          obtain ⟨b2l, d, e, b2ls, b2lr⟩ := decls_open z5 n2l
          injection e with e1 e2 e3
          subst e1 e3
          obtain ⟨b2f, d, x2f, fp2, e, b2fs, b2fr, b2fe⟩ := funcs_open z6 n2f
          injection e with e1 e2 e3
          subst e1 e3
          obtain ⟨t1f, f1f⟩ := f1f _ _ _ b1fe
          have hl1v : Hid ((encStr [120] :: t1v).length = P1.vars.length * 2) := Lib.hid (by rw [← f1v]; exact length_dcells _)
          have hl1l : Hid ((encStr [108] :: t1l).length = P1.locks.length * 2) := Lib.hid (by rw [← f1l]; exact length_dcells _)
          have hl1f : Hid ((encStr mainW :: t1f).length = P1.funcs.length * 3) := Lib.hid (by rw [← f1f]; exact b1fe.len)
          have hl2f : Hid (x2f.length = P2.funcs.length * 3) := Lib.hid b2fe.len
          have hof : Hid (∀ u ∈ x2f, u.oneCell' = true) := Lib.hid (EncF.one b2fe)
          have Hef : Hid (EncF w3 (P1.funcs ++ P2.funcs) (encStr mainW :: (t1f ++ x2f)) (fp1 ++ fp2)) := Lib.hid (by have := EncF.app b1fe b2fe; rw [f1f] at this; exact this)
          rw [f1v] at b1vr
          rw [f1l] at b1lr
          rw [f1f] at b1fr
          have Hdv : Hid (dcells (P1.vars ++ P2.vars) = encStr [120] :: (t1v ++ dcells P2.vars)) := Lib.hid (by rw [dcells, List.flatMap_append]; show dcells P1.vars ++ dcells P2.vars = _; rw [f1v]; rfl)
          have Hdl : Hid (dcells (P1.locks ++ P2.locks) = encStr [108] :: (t1l ++ dcells P2.locks)) := Lib.hid (by rw [dcells, List.flatMap_append]; show dcells P1.locks ++ dcells P2.locks = _; rw [f1l]; rfl)
          have hl2v : Hid ((dcells P2.vars).length = P2.vars.length * 2) := Lib.hid (length_dcells _)
          have hl2l : Hid ((dcells P2.locks).length = P2.locks.length * 2) := Lib.hid (length_dcells _)
          have hov : Hid (∀ u ∈ dcells P2.vars, u.oneCell' = true) := Lib.hid (dcells_one _)
          have hol : Hid (∀ u ∈ dcells P2.locks, u.oneCell' = true) := Lib.hid (dcells_one _)
          generalize dcells P2.vars = x2v at *
          generalize dcells P2.locks = x2l at *
          obtain ⟨hB1, j1, j2, j3⟩ := back_ok G1.out hB
          obtain ⟨hB2, j4, j5, j6⟩ := back_ok G2.out kB
          have HB1 := Lib.hid hB1
          have HB2 := Lib.hid hB2
          have hs1v : Hid (P1.vars.length ≤ 1000) := Lib.hid (by omega)
          have hs1l : Hid (P1.locks.length ≤ 1000) := Lib.hid (by omega)
          have hs1f : Hid (P1.funcs.length ≤ 1000) := Lib.hid (by omega)
          have hs2v : Hid (P2.vars.length ≤ 1000) := Lib.hid (by omega)
          have hs2l : Hid (P2.locks.length ≤ 1000) := Lib.hid (by omega)
          have hs2f : Hid (P2.funcs.length ≤ 1000) := Lib.hid (by omega)
          have h0v := Lib.hid n1v
          have h0l := Lib.hid n1l
          have h0f := Lib.hid n1f
          obtain ⟨iD, hiD, hzD0, hzD1, hzD2⟩ := info_parts infoD
          obtain ⟨iF, hiF, hzF0, hzF1, hzF2⟩ := info_parts infoFn
          have hmkD : ∀ W : World, (Instr.buildSlice 27 0 #[]).run Try.prog W = .ok (.slice (some ⟨W.heap.size, 0, none⟩) 0 0) (W.alloc (.cells #[] 59)) := fun _ => by kernel_rfl
          have hmkF : ∀ W : World, (Instr.buildSlice 28 0 #[]).run Try.prog W = .ok (.slice (some ⟨W.heap.size, 0, none⟩) 0 0) (W.alloc (.cells #[] 47)) := fun _ => by kernel_rfl
          have Hbb1 := Lib.hid (Hb1.out.only (Hu2.out.plus Hu3.out) (by simp))
          have Hbb2 := Lib.hid (Hb2.out.only Hu3.out (by simp))
          have hcl : ∀ W, Only [] w3 W → W.cell? ⟨q1, 0, none⟩ = some (.slice (some ⟨b1v, 0, none⟩) P1.vars.length c1v) ∧ W.cell? ⟨q1, 1, none⟩ = some (.slice (some ⟨b1l, 0, none⟩) P1.locks.length c1l) ∧ W.cell? ⟨q1, 2, none⟩ = some (.slice (some ⟨b1f, 0, none⟩) P1.funcs.length c1f) ∧ q1 < W.heap.size ∧
              W.cell? ⟨q2, 0, none⟩ = some (.slice (some ⟨b2v, 0, none⟩) P2.vars.length c2v) ∧ W.cell? ⟨q2, 1, none⟩ = some (.slice (some ⟨b2l, 0, none⟩) P2.locks.length c2l) ∧ W.cell? ⟨q2, 2, none⟩ = some (.slice (some ⟨b2f, 0, none⟩) P2.funcs.length c2f) ∧ q2 < W.heap.size ∧
              W.rangeAt b1v 0 (encStr [120] :: t1v) ∧ W.rangeAt b2v 0 x2v ∧ W.rangeAt b1l 0 (encStr [108] :: t1l) ∧ W.rangeAt b2l 0 x2l ∧ W.rangeAt b1f 0 (encStr mainW :: t1f) ∧ W.rangeAt b2f 0 x2f := fun W hW =>
            ⟨(Hbb1.out.only hW (by simp)).cell 0, (Hbb1.out.only hW (by simp)).cell 1, (Hbb1.out.only hW (by simp)).cell 2, (Hbb1.out.only hW (by simp)).lt, (Hbb2.out.only hW (by simp)).cell 0, (Hbb2.out.only hW (by simp)).cell 1, (Hbb2.out.only hW (by simp)).cell 2, (Hbb2.out.only hW (by simp)).lt,
             rangeAt_only b1vr hW b1vs (by simp), rangeAt_only b2vr hW b2vs (by simp), rangeAt_only b1lr hW b1ls (by simp), rangeAt_only b2lr hW b2ls (by simp), rangeAt_only b1fr hW b1fs (by simp), rangeAt_only b2fr hW b2fs (by simp)⟩
          have Hcl := Lib.hid hcl
          have hdr : Only [] w3 w3.drew := (Only.refl [] w3).drew
          clear hcl hB kB hn kn hfirst hlen klen n1v n1l n1f n2v n2l n2f z1 z2 z3 z4 z5 z6 b1vr b2vr b1lr b2lr b1fr b2fr b1fe b2fe f1v f1l f1f hB1 hB2 j1 j2 j3 j4 j5 j6 Hb1 Hb2 b1vs b2vs b1ls b2ls b1fs b2fs e2
          refine wp_region_tag (P := Try.prog) 23 (by kernel_rfl) (by kernel_rfl) (fun i => i == 21 || i == 22) joinT
            [⟨fun v _ => ∃ g, v = .slice (some ⟨g, 0, none⟩) 0 0, fun _ _ _ h _ => h⟩,
             SP.is (.pointer (some ⟨q1, 0, none⟩)),
             SP.is (.slice (some ⟨b1v, 0, none⟩) P1.vars.length c1v),
             OwnSP w3.heap.size 59 2 P1.vars.length (encStr [120]) t1v,
             SP.is (.pointer (some ⟨q2, 0, none⟩)),
             SP.is (.slice (some ⟨b2v, 0, none⟩) P2.vars.length c2v),
             OwnSP w3.heap.size 59 2 (P1.vars.length + P2.vars.length) (encStr [120]) (t1v ++ x2v),
             ⟨fun v _ => ∃ g, v = .slice (some ⟨g, 0, none⟩) 0 0, fun _ _ _ h _ => h⟩,
             SP.is (.pointer (some ⟨q1, 1, none⟩)),
             SP.is (.slice (some ⟨b1l, 0, none⟩) P1.locks.length c1l),
             OwnSP w3.heap.size 59 2 P1.locks.length (encStr [108]) t1l,
             SP.is (.pointer (some ⟨q2, 1, none⟩)),
             SP.is (.slice (some ⟨b2l, 0, none⟩) P2.locks.length c2l),
             OwnSP w3.heap.size 59 2 (P1.locks.length + P2.locks.length) (encStr [108]) (t1l ++ x2l),
             ⟨fun v _ => ∃ g, v = .slice (some ⟨g, 0, none⟩) 0 0, fun _ _ _ h _ => h⟩,
             SP.is (.pointer (some ⟨q1, 2, none⟩)),
             SP.is (.slice (some ⟨b1f, 0, none⟩) P1.funcs.length c1f),
             OwnSP w3.heap.size 47 3 P1.funcs.length (encStr mainW) t1f,
             SP.is (.pointer (some ⟨q2, 2, none⟩)),
             SP.is (.slice (some ⟨b2f, 0, none⟩) P2.funcs.length c2f),
             OwnSP w3.heap.size 47 3 (P1.funcs.length + P2.funcs.length) (encStr mainW) (t1f ++ x2f),
             ⟨fun v W => ∃ uv ul uf, v = .agg #[uv, ul, uf] ∧ W.ownsRow w3.heap.size 59 2 uv (P1.vars.length + P2.vars.length) (encStr [120] :: (t1v ++ x2v)) ∧ W.ownsRow w3.heap.size 59 2 ul (P1.locks.length + P2.locks.length) (encStr [108] :: (t1l ++ x2l)) ∧ W.ownsRow w3.heap.size 47 3 uf (P1.funcs.length + P2.funcs.length) (encStr mainW :: (t1f ++ x2f)), fun _ _ _ ⟨uv, ul, uf, e, h1, h2, h3⟩ hO => ⟨uv, ul, uf, e, owns_keep h1 hO (by simp), owns_keep h2 hO (by simp), owns_keep h3 hO (by simp)⟩⟩,
             ⟨fun v W => ∃ g, v = .pointer (some ⟨g, 0, none⟩) ∧ IsBlk W g (.cells #[.slice none 0 0, .slice none 0 0, .slice none 0 0] 30) ∧ w3.heap.size ≤ g, fun _ _ _ ⟨g, e, h1, h2⟩ hO => ⟨g, e, h1.only hO (by simp), h2⟩⟩] ?_ ?_ ?_
          · intro k x hk
            have hk3 : (k = 6 ∧ x = encStr [120]) ∨ (k = 13 ∧ x = encStr [108]) ∨ (k = 20 ∧ x = encStr mainW) := joinT_at hk
            rcases hk3 with ⟨rfl, rfl⟩ | ⟨rfl, rfl⟩ | ⟨rfl, rfl⟩
            all_goals refine ⟨?_, ?_, ?_, ?_, ?_, ?_, ?_, ?_, ?_, ?_, ?_, ?_, ?_, ?_, ?_, ?_, ?_, ?_, ?_, ?_, ?_, ?_, ?_, trivial⟩
            all_goals first
              | exact .inr (fun _ _ _ h _ => h)
              | exact .inl (by decide +kernel)
              | exact .inr (fun v w w' h hR => own_tag (by simp [encStr, mainW]) h hR)
              | exact .inr (fun v w w' h hR => ptr_tag h hR)
          · simp only [List.take_succ_cons, List.take_zero]
            refine StepsOK.cons ?_ (StepsOK.cons ?_ (StepsOK.cons ?_ (StepsOK.cons ?_ (StepsOK.cons ?_ (StepsOK.cons ?_ (StepsOK.cons ?_ (StepsOK.cons ?_ (StepsOK.cons ?_ (StepsOK.cons ?_ (StepsOK.cons ?_ (StepsOK.cons ?_ (StepsOK.cons ?_ (StepsOK.cons ?_ (StepsOK.cons ?_ (StepsOK.cons ?_ (StepsOK.cons ?_ (StepsOK.cons ?_ (StepsOK.cons ?_ (StepsOK.cons ?_ (StepsOK.cons ?_ (StepsOK.cons ?_ (StepsOK.cons ?_ StepsOK.nil))))))))))))))))))))))
            · intro a W L N hR hold hφ hcl hkp hd K hK
              have hmk := hmkD W
              clear hold hφ hcl hkp hd
              rw [if_pos (by rfl)]
              go_simp
              exact hK _ _ (RkT.none_ rfl ((Only.refl _ _).alloc _)) ⟨_, rfl⟩
            · intro a W L N hR hold hφ hcl hkp hd K hK
              have e9 := hold 9 (by kernel_rfl)
              clear hold hφ hcl hkp hd
              rw [if_pos (by rfl)]
              go_simp
              exact hK _ _ (RkT.none_ rfl (Only.refl _ _)) rfl
            · intro a W L N hR hold hφ hcl hkp hd K hK
              have e78 := got hφ (hd 1 (by kernel_rfl)) rfl rfl rfl
              obtain ⟨l0, l1, l2, l3, m0, m1, m2, m3, r1, r2, r3, r4, r5, r6⟩ := Hcl.out W (Only.plus hdr hR)
              clear hold hφ hcl hkp hd
              rw [if_pos (by rfl)]
              go_simp
              exact hK _ _ (RkT.none_ rfl (Only.refl _ _)) rfl
            · intro a W L N hR hold hφ hcl hkp hd K hK
              have e79 := got hφ (hd 2 (by kernel_rfl)) rfl rfl rfl
              obtain ⟨v77, e77, g77, p77⟩ := gotP hφ (hd 0 (by kernel_rfl)) rfl rfl rfl
              have p77 : v77 = .slice (some ⟨g77, 0, none⟩) 0 0 := p77
              subst p77
              obtain ⟨l0, l1, l2, l3, m0, m1, m2, m3, r1, r2, r3, r4, r5, r6⟩ := Hcl.out W (Only.plus hdr hR)
              have hsz := hR.size
              clear hold hφ hcl hkp hd
              rw [if_pos (by rfl)]
              refine wp_append_fresh _ _ 27 59 iD _ 2 24 rfl Try.underlying27 hiD hzD0 hzD1 hzD2 rfl g77 (by simp [Act.eval, e77]) ⟨b1v, 0, none⟩ P1.vars.length c1v (encStr [120] :: t1v) (by simp [Act.eval, e79]) hl1v.out (fun j u hu => by rw [Addr.add_mid]; have := r1 j u hu; simpa using this) h0v.out (by have := hs1v.out; unfold maxLen; omega) (by have := hs1v.out; omega) w3.heap.size hsz ?_
              intro v9 w9 h9 hO9
              exact hK _ _ (RkT.none_ rfl hO9) h9
            · intro a W L N hR hold hφ hcl hkp hd K hK
              have e12 := hold 12 (by kernel_rfl)
              clear hold hφ hcl hkp hd
              rw [if_pos (by rfl)]
              go_simp
              exact hK _ _ (RkT.none_ rfl (Only.refl _ _)) rfl
            · intro a W L N hR hold hφ hcl hkp hd K hK
              have e81 := got hφ (hd 4 (by kernel_rfl)) rfl rfl rfl
              obtain ⟨l0, l1, l2, l3, m0, m1, m2, m3, r1, r2, r3, r4, r5, r6⟩ := Hcl.out W (Only.plus hdr hR)
              clear hold hφ hcl hkp hd
              rw [if_pos (by rfl)]
              go_simp
              exact hK _ _ (RkT.none_ rfl (Only.refl _ _)) rfl
            · intro a W L N hR hold hφ hcl hkp hd K hK
              have e82 := got hφ (hd 5 (by kernel_rfl)) rfl rfl rfl
              obtain ⟨v80, e80, p80⟩ := gotP hφ (hd 3 (by kernel_rfl)) rfl rfl rfl
              have p80 : W.ownsRow w3.heap.size 59 2 v80 P1.vars.length (encStr [120] :: t1v) := p80
              obtain ⟨l0, l1, l2, l3, m0, m1, m2, m3, r1, r2, r3, r4, r5, r6⟩ := Hcl.out W (Only.plus hdr hR)
              have hsz := hR.size
              clear hold hφ hcl hkp hd
              rw [if_pos (by rfl)]
              refine wp_append_row _ _ 27 59 iD _ 2 24 rfl Try.underlying27 hiD hzD0 hzD1 hzD2 rfl (by decide) w3.heap.size v80 P1.vars.length (encStr [120] :: t1v) (by simp [Act.eval, e80]) p80 ⟨b2v, 0, none⟩ P2.vars.length c2v x2v (by simp [Act.eval, e82]) hl2v.out (fun j u hu => by rw [Addr.add_mid]; have := r2 j u hu; simpa using this) hov.out (by have := hs1v.out; have := hs2v.out; unfold maxLen; omega) (by have := hs1v.out; have := hs2v.out; omega) hsz ?_
              intro v9 w9 h9 hO9
              exact hK _ _ (RkT.some_ rfl (tag_of p80 hO9)) h9
            · intro a W L N hR hold hφ hcl hkp hd K hK
              have hmk := hmkD W
              clear hold hφ hcl hkp hd
              rw [if_pos (by rfl)]
              go_simp
              exact hK _ _ (RkT.none_ rfl ((Only.refl _ _).alloc _)) ⟨_, rfl⟩
            · intro a W L N hR hold hφ hcl hkp hd K hK
              have e9 := hold 9 (by kernel_rfl)
              clear hold hφ hcl hkp hd
              rw [if_pos (by rfl)]
              go_simp
              exact hK _ _ (RkT.none_ rfl (Only.refl _ _)) rfl
            · intro a W L N hR hold hφ hcl hkp hd K hK
              have e85 := got hφ (hd 8 (by kernel_rfl)) rfl rfl rfl
              obtain ⟨l0, l1, l2, l3, m0, m1, m2, m3, r1, r2, r3, r4, r5, r6⟩ := Hcl.out W (Only.plus hdr hR)
              clear hold hφ hcl hkp hd
              rw [if_pos (by rfl)]
              go_simp
              exact hK _ _ (RkT.none_ rfl (Only.refl _ _)) rfl
            · intro a W L N hR hold hφ hcl hkp hd K hK
              have e86 := got hφ (hd 9 (by kernel_rfl)) rfl rfl rfl
              obtain ⟨v84, e84, g84, p84⟩ := gotP hφ (hd 7 (by kernel_rfl)) rfl rfl rfl
              have p84 : v84 = .slice (some ⟨g84, 0, none⟩) 0 0 := p84
              subst p84
              obtain ⟨l0, l1, l2, l3, m0, m1, m2, m3, r1, r2, r3, r4, r5, r6⟩ := Hcl.out W (Only.plus hdr hR)
              have hsz := hR.size
              clear hold hφ hcl hkp hd
              rw [if_pos (by rfl)]
              refine wp_append_fresh _ _ 27 59 iD _ 2 24 rfl Try.underlying27 hiD hzD0 hzD1 hzD2 rfl g84 (by simp [Act.eval, e84]) ⟨b1l, 0, none⟩ P1.locks.length c1l (encStr [108] :: t1l) (by simp [Act.eval, e86]) hl1l.out (fun j u hu => by rw [Addr.add_mid]; have := r3 j u hu; simpa using this) h0l.out (by have := hs1l.out; unfold maxLen; omega) (by have := hs1l.out; omega) w3.heap.size hsz ?_
              intro v9 w9 h9 hO9
              exact hK _ _ (RkT.none_ rfl hO9) h9
            · intro a W L N hR hold hφ hcl hkp hd K hK
              have e12 := hold 12 (by kernel_rfl)
              clear hold hφ hcl hkp hd
              rw [if_pos (by rfl)]
              go_simp
              exact hK _ _ (RkT.none_ rfl (Only.refl _ _)) rfl
            · intro a W L N hR hold hφ hcl hkp hd K hK
              have e88 := got hφ (hd 11 (by kernel_rfl)) rfl rfl rfl
              obtain ⟨l0, l1, l2, l3, m0, m1, m2, m3, r1, r2, r3, r4, r5, r6⟩ := Hcl.out W (Only.plus hdr hR)
              clear hold hφ hcl hkp hd
              rw [if_pos (by rfl)]
              go_simp
              exact hK _ _ (RkT.none_ rfl (Only.refl _ _)) rfl
            · intro a W L N hR hold hφ hcl hkp hd K hK
              have e89 := got hφ (hd 12 (by kernel_rfl)) rfl rfl rfl
              obtain ⟨v87, e87, p87⟩ := gotP hφ (hd 10 (by kernel_rfl)) rfl rfl rfl
              have p87 : W.ownsRow w3.heap.size 59 2 v87 P1.locks.length (encStr [108] :: t1l) := p87
              obtain ⟨l0, l1, l2, l3, m0, m1, m2, m3, r1, r2, r3, r4, r5, r6⟩ := Hcl.out W (Only.plus hdr hR)
              have hsz := hR.size
              clear hold hφ hcl hkp hd
              rw [if_pos (by rfl)]
              refine wp_append_row _ _ 27 59 iD _ 2 24 rfl Try.underlying27 hiD hzD0 hzD1 hzD2 rfl (by decide) w3.heap.size v87 P1.locks.length (encStr [108] :: t1l) (by simp [Act.eval, e87]) p87 ⟨b2l, 0, none⟩ P2.locks.length c2l x2l (by simp [Act.eval, e89]) hl2l.out (fun j u hu => by rw [Addr.add_mid]; have := r4 j u hu; simpa using this) hol.out (by have := hs1l.out; have := hs2l.out; unfold maxLen; omega) (by have := hs1l.out; have := hs2l.out; omega) hsz ?_
              intro v9 w9 h9 hO9
              exact hK _ _ (RkT.some_ rfl (tag_of p87 hO9)) h9
            · intro a W L N hR hold hφ hcl hkp hd K hK
              have hmk := hmkF W
              clear hold hφ hcl hkp hd
              rw [if_pos (by rfl)]
              go_simp
              exact hK _ _ (RkT.none_ rfl ((Only.refl _ _).alloc _)) ⟨_, rfl⟩
            · intro a W L N hR hold hφ hcl hkp hd K hK
              have e9 := hold 9 (by kernel_rfl)
              clear hold hφ hcl hkp hd
              rw [if_pos (by rfl)]
              go_simp
              exact hK _ _ (RkT.none_ rfl (Only.refl _ _)) rfl
            · intro a W L N hR hold hφ hcl hkp hd K hK
              have e92 := got hφ (hd 15 (by kernel_rfl)) rfl rfl rfl
              obtain ⟨l0, l1, l2, l3, m0, m1, m2, m3, r1, r2, r3, r4, r5, r6⟩ := Hcl.out W (Only.plus hdr hR)
              clear hold hφ hcl hkp hd
              rw [if_pos (by rfl)]
              go_simp
              exact hK _ _ (RkT.none_ rfl (Only.refl _ _)) rfl
            · intro a W L N hR hold hφ hcl hkp hd K hK
              have e93 := got hφ (hd 16 (by kernel_rfl)) rfl rfl rfl
              obtain ⟨v91, e91, g91, p91⟩ := gotP hφ (hd 14 (by kernel_rfl)) rfl rfl rfl
              have p91 : v91 = .slice (some ⟨g91, 0, none⟩) 0 0 := p91
              subst p91
              obtain ⟨l0, l1, l2, l3, m0, m1, m2, m3, r1, r2, r3, r4, r5, r6⟩ := Hcl.out W (Only.plus hdr hR)
              have hsz := hR.size
              clear hold hφ hcl hkp hd
              rw [if_pos (by rfl)]
              refine wp_append_fresh _ _ 28 47 iF _ 3 48 rfl Try.underlying28 hiF hzF0 hzF1 hzF2 rfl g91 (by simp [Act.eval, e91]) ⟨b1f, 0, none⟩ P1.funcs.length c1f (encStr mainW :: t1f) (by simp [Act.eval, e93]) hl1f.out (fun j u hu => by rw [Addr.add_mid]; have := r5 j u hu; simpa using this) h0f.out (by have := hs1f.out; unfold maxLen; omega) (by have := hs1f.out; omega) w3.heap.size hsz ?_
              intro v9 w9 h9 hO9
              exact hK _ _ (RkT.none_ rfl hO9) h9
            · intro a W L N hR hold hφ hcl hkp hd K hK
              have e12 := hold 12 (by kernel_rfl)
              clear hold hφ hcl hkp hd
              rw [if_pos (by rfl)]
              go_simp
              exact hK _ _ (RkT.none_ rfl (Only.refl _ _)) rfl
            · intro a W L N hR hold hφ hcl hkp hd K hK
              have e95 := got hφ (hd 18 (by kernel_rfl)) rfl rfl rfl
              obtain ⟨l0, l1, l2, l3, m0, m1, m2, m3, r1, r2, r3, r4, r5, r6⟩ := Hcl.out W (Only.plus hdr hR)
              clear hold hφ hcl hkp hd
              rw [if_pos (by rfl)]
              go_simp
              exact hK _ _ (RkT.none_ rfl (Only.refl _ _)) rfl
            · intro a W L N hR hold hφ hcl hkp hd K hK
              have e96 := got hφ (hd 19 (by kernel_rfl)) rfl rfl rfl
              obtain ⟨v94, e94, p94⟩ := gotP hφ (hd 17 (by kernel_rfl)) rfl rfl rfl
              have p94 : W.ownsRow w3.heap.size 47 3 v94 P1.funcs.length (encStr mainW :: t1f) := p94
              obtain ⟨l0, l1, l2, l3, m0, m1, m2, m3, r1, r2, r3, r4, r5, r6⟩ := Hcl.out W (Only.plus hdr hR)
              have hsz := hR.size
              clear hold hφ hcl hkp hd
              rw [if_pos (by rfl)]
              refine wp_append_row _ _ 28 47 iF _ 3 48 rfl Try.underlying28 hiF hzF0 hzF1 hzF2 rfl (by decide) w3.heap.size v94 P1.funcs.length (encStr mainW :: t1f) (by simp [Act.eval, e94]) p94 ⟨b2f, 0, none⟩ P2.funcs.length c2f x2f (by simp [Act.eval, e96]) hl2f.out (fun j u hu => by rw [Addr.add_mid]; have := r6 j u hu; simpa using this) hof.out (by have := hs1f.out; have := hs2f.out; unfold maxLen; omega) (by have := hs1f.out; have := hs2f.out; omega) hsz ?_
              intro v9 w9 h9 hO9
              exact hK _ _ (RkT.some_ rfl (tag_of p94 hO9)) h9
            · intro a W L N hR hold hφ hcl hkp hd K hK
              obtain ⟨v83, e83, p83⟩ := gotP hφ (hd 6 (by kernel_rfl)) rfl rfl rfl
              have p83 := own_word p83
              obtain ⟨x83, y83, rfl⟩ := owns_slice p83
              obtain ⟨v90, e90, p90⟩ := gotP hφ (hd 13 (by kernel_rfl)) rfl rfl rfl
              have p90 := own_word p90
              obtain ⟨x90, y90, rfl⟩ := owns_slice p90
              obtain ⟨v97, e97, p97⟩ := gotP hφ (hd 20 (by kernel_rfl)) rfl rfl rfl
              have p97 := own_word p97
              obtain ⟨x97, y97, rfl⟩ := owns_slice p97
              clear hold hφ hcl hkp hd
              rw [if_pos (by rfl)]
              go_simp
              exact hK _ _ (RkT.none_ rfl (Only.refl _ _)) ⟨_, _, _, rfl, p83, p90, p97⟩
            · intro a W L N hR hold hφ hcl hkp hd K hK
              have hsz := hR.size
              clear hold hφ hcl hkp hd
              rw [if_pos (by rfl)]
              go_simp
              exact hK _ _ (RkT.none_ rfl ((Only.refl _ _).alloc _)) ⟨_, rfl, IsBlk.made W _, hsz⟩
          · intro us W hO' hus
            obtain ⟨uv, ul, uf, p21, own1, own2, own3⟩ := hus 21 _ 98 (by omega) rfl rfl rfl
            obtain ⟨g, p22, hbg, hgg⟩ := hus 22 _ 18 (by omega) rfl rfl rfl
            clear hus
            simp only [List.take_succ_cons, List.take_zero, List.drop_succ_cons, List.drop_zero, fillAct, Act.put, List.setIfInBounds_toArray, List.set_cons_zero, List.set_cons_succ, Nat.reduceAdd, p21, p22]
            clear p21 p22
            have hOW := hdr.plus hO'
            have hg1 := prog_apart hbg own1
            have hg2 := prog_apart hbg own2
            have hg3 := prog_apart hbg own3
            obtain ⟨xv, yv, rfl⟩ := owns_slice own1
            obtain ⟨xl, yl, rfl⟩ := owns_slice own2
            obtain ⟨xf, yf, rfl⟩ := owns_slice own3
            obtain ⟨tb, tO⟩ := three_world hbg (.slice xv (P1.vars.length + P2.vars.length : Nat) yv) (.slice xl (P1.locks.length + P2.locks.length : Nat) yl) (.slice xf (P1.funcs.length + P2.funcs.length : Nat) yf)
            have hO5 := hOW.then tO [] (by simp) (fun i hi => .inr (by simp only [List.mem_singleton] at hi; omega))
            have k1 := owns_apart (u := .slice (some ⟨g, 0, none⟩) 0 0) own1 tO hg1
            have k2 := owns_apart (u := .slice (some ⟨g, 0, none⟩) 0 0) own2 tO hg2
            have k3 := owns_apart (u := .slice (some ⟨g, 0, none⟩) 0 0) own3 tO hg3
            rw [← Hdv.out] at k1
            rw [← Hdl.out] at k2
            have d1 := made_decls k1 (by simp)
            have d2 := made_decls k2 (by simp)
            have d3 := made_funcs k3 (by simp) (Hef.out.keep hO5 (by simp))
            have hJ := (⟨d1, d2, d3⟩ : ProgAt _ _ _ _ (joinP P1 P2))
            have HJ := Lib.hid hJ
            have Htb := Lib.hid tb
            have HO5 := Lib.hid hO5
            have c0 := hbg.cell 0
            have c1 := hbg.cell 1
            have c2 := hbg.cell 2
            have cl0 := hbg.lt
            have f0 := hbg.notFrozen 0
            have f1 := hbg.notFrozen 1
            have f2 := hbg.notFrozen 2
            clear own1 own2 own3 hg1 hg2 hg3 d1 d2 d3 k1 k2 k3 hJ tb tO hO5 hO' hOW hmkD hmkF hl1v hl1l hl1f hl2v hl2l hl2f hov hol hof h0v h0l h0f hbg
            go_upto_region 14 with fail
            generalize hW5 : ((W.setCell ⟨g, 0, none⟩ (.slice xv (P1.vars.length + P2.vars.length : Nat) yv)).setCell ⟨g, 1, none⟩ (.slice xl (P1.locks.length + P2.locks.length : Nat) yl)).setCell ⟨g, 2, none⟩ (.slice xf (P1.funcs.length + P2.funcs.length : Nat) yf) = w5 at *
            clear hW5 c0 c1 c2 cl0 f0 f1 f2
            have hsame : eraseP P3 = eraseP (joinP P1 P2) := by rw [G3.out, join_erase, join_erase, G1.out, G2.out]
            have hBJ : ∀ f ∈ (joinP P1 P2).funcs, BodyOk f := fun f hf => by
              rcases List.mem_append.1 hf with h | h
              · exact HB1.out f h
              · exact HB2.out f h
            obtain ⟨hB3, i1, i2, i3⟩ := back_ok hsame hBJ
            have hsp : sameP P3 (joinP P1 P2) = true := by rw [sameP_iff]; simp [hsame]
            have j1 : P3.vars.length ≤ 1000000 := by rw [i1]; show (P1.vars ++ P2.vars).length ≤ _; have := hs1v.out; have := hs2v.out; rw [List.length_append]; omega
            have j2 : P3.locks.length ≤ 1000000 := by rw [i2]; show (P1.locks ++ P2.locks).length ≤ _; have := hs1l.out; have := hs2l.out; rw [List.length_append]; omega
            have j3 : P3.funcs.length ≤ 1000000 := by rw [i3]; show (P1.funcs ++ P2.funcs).length ≤ _; have := hs1f.out; have := hs2f.out; rw [List.length_append]; omega
            have HS := fun W (hW : Only [] w5 W) => same_any W _ _ _ _ _ _ P3 (joinP P1 P2) (HP3.out.more (HO5.out.plus hW)) (ProgAt.more HJ.out hW) (fun f hf => (hB3 f hf).1) (fun f hf => (hBJ f hf).1) ⟨j1, j2, j3⟩
            have HS2 := fun W (hW : Only [] w5 W) => rsame_any W _ _ _ _ _ _ P3 (joinP P1 P2) (HP3.out.more (HO5.out.plus hW)) (ProgAt.more HJ.out hW) (fun f hf => (hB3 f hf).1) (fun f hf => (hBJ f hf).1) ⟨j1, j2, j3⟩
            rw [hsp] at HS HS2
            have HSa := Lib.hid HS
            have HSb := Lib.hid HS2
            have c0 := (Hb3.out.only HO5.out (by simp)).cell 0
            have c1 := (Hb3.out.only HO5.out (by simp)).cell 1
            have c2 := (Hb3.out.only HO5.out (by simp)).cell 2
            have cl0 := (Hb3.out.only HO5.out (by simp)).lt
            have d0 := Htb.out.cell 0
            have d1 := Htb.out.cell 1
            have d2 := Htb.out.cell 2
            have dl0 := Htb.out.lt
            clear HS HS2 hsp hsame hBJ hB3 j1 j2 j3 i1 i2 i3
            go_wp2_with fail
            refine (HSa.out w5 (Only.refl _ _)).mono ?_
            rintro e w8 ⟨rfl, hO8⟩
            have HO8 := Lib.hid hO8
            clear c0 c1 c2 cl0 d0 d1 d2 dl0
            have c0 := (Hb3.out.only (HO5.out.plus hO8) (by simp)).cell 0
            have c1 := (Hb3.out.only (HO5.out.plus hO8) (by simp)).cell 1
            have c2 := (Hb3.out.only (HO5.out.plus hO8) (by simp)).cell 2
            have cl0 := (Hb3.out.only (HO5.out.plus hO8) (by simp)).lt
            have d0 := (Htb.out.only hO8 (by simp)).cell 0
            have d1 := (Htb.out.only hO8 (by simp)).cell 1
            have d2 := (Htb.out.only hO8 (by simp)).cell 2
            have dl0 := (Htb.out.only hO8 (by simp)).lt
            clear hO8
            go_wp2_with fail
            refine (HSb.out w8 HO8.out).mono ?_
            rintro e w9 ⟨rfl, hO9⟩
            have HO9 := Lib.hid hO9
            clear hO9
            go_wp2
            go_ret
            exact ⟨rfl, HO3.out.plus (HO5.out.plus (HO8.out.plus HO9.out))⟩
        · have hsi : (2000 : Int) < (s.length : Int) + (t.length : Int) := by omega
          go_wp2
          go_ret
          exact ⟨rfl, HO7.out⟩
      · rw [show decide (sizeM c 0 ≤ 40) = false from by simp [hfc]]
        clear hfc
        go_wp2
        go_ret
        exact ⟨rfl, HO3.out⟩
    · rw [show decide (sizeM b 0 ≤ 40) = false from by simp [hfb]]
      clear hfb
      go_wp2
      go_ret
      exact ⟨rfl, HO2.out⟩
  · rw [show decide (sizeM a 0 ≤ 40) = false from by simp [hfa]]
    clear hfa
    go_wp2
    go_ret
    exact ⟨rfl, HO1.out⟩

theorem pjoin_row (a0 : Option Addr) (len0 cap0 : Nat) (l0 : RawM) (a1 : Option Addr) (len1 cap1 : Nat) (l1 : RawM) (a2 : Option Addr) (len2 cap2 : Nat) (l2 : RawM) (w : World)
    (h0 : RawAt w (.slice a0 len0 cap0) l0) (h1 : RawAt w (.slice a1 len1 cap1) l1) (h2 : RawAt w (.slice a2 len2 cap2) l2) :
    Calls Try.prog 10 #[.slice a0 len0 cap0, .slice a1 len1 cap1, .slice a2 len2 cap2] w fun e w' => e = .returned (.bool true) ∧ Only [] w w' := pjoin_walk _ _ _ l0 l1 l2 w h0 h1 h2

end Go.Proofs.Ytonpfmhdefhhmaa
