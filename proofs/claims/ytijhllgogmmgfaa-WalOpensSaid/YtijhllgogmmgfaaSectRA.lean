/-
  The reference's Parse.
-/
import Derived.Test.YtijhllgogmmgfaaStab
import Derived.Test.YtijhllgogmmgfaaSectS
import Derived.Test.YtijhllgogmmgfaaSectH
import Derived.Test.YtijhllgogmmgfaaSectL
namespace Go.Proofs.Ytijhllgogmmgfaa
set_option linter.unusedVariables false
set_option maxRecDepth 100000
open Go.RowKit

/-- append of bytes to an empty row without room: new memory alone. -/
theorem wp_append_new {w : World} {o : Oper} {a : Act} {K : Act → World → Prop} {Q : Exit → Act → World → Prop} (s x : Operand)
    (ho : o.op = .call { callee := .builtin .append, args := #[s, x], argTypes := #[23, 23] })
    (g : Nat) (hs : a.eval s = .slice (some ⟨g, 0, none⟩) 0 0)
    (xa : Option Addr) (m c : Nat) (l : List UInt8) (hx : a.eval x = .slice xa m c) (hsrc : Src w xa m l) (hsm : m ≤ 100000000)
    (h : ∀ v' w', (∃ a' c', v' = .slice a' m c' ∧ Src w' a' m l ∧ m ≤ c') → (0 < m → OwnB w' w.heap.size v' l) → Only [] w w' → K (a.put o.dst v') w') : o.wp Try.prog a w K Q := by
  obtain ⟨i0, hi, hz0, hz1, hz2⟩ := info_parts info5
  have hlen := hsrc.1
  by_cases hm : m = 0
  · subst hm
    obtain rfl : l = [] := List.eq_nil_of_length_eq_zero hlen
    have hend : K (a.put o.dst (.slice (some ⟨g, 0, none⟩) 0 0)) w := h _ w ⟨_, _, rfl, ⟨rfl, fun h => by omega⟩, Nat.le_refl _⟩ (fun h => by omega) (Only.refl _ _)
    have hrun : (Builtin.append_ #[23, 23] o.type #[.slice (some ⟨g, 0, none⟩) 0 0, .slice xa 0 c]).run Try.prog w = .ok (.slice (some ⟨g, 0, none⟩) 0 0) w := by
      rcases xa with _ | ad
      · simp [Builtin.append_, run_underlying Try.underlying23, sizeOf, typeInfo, hi, Builtin.lenOf, Builtin.firstCells, storeCells]
      · have hfc := run_firstCells_some (P := Try.prog) w i0.size 0 ad 0 c [] (by simp) (fun j u hu => by simp at hu)
        simp [Builtin.append_, run_underlying Try.underlying23, sizeOf, typeInfo, hi, Builtin.lenOf, hfc, storeCells]
    unfold Oper.wp execOp
    simp only [ho, resolve, invoke, builtin, Sem.run_bind, Sem.run_pure, Result.andThen_ok, List.map_toArray, List.map_cons, List.map_nil, hs, hx, hrun]
    exact hend
  · obtain ⟨b, o', rfl, hb, hr⟩ := hsrc.2 (by omega)
    obtain ⟨v', w', hrun, r1, r2⟩ := run_append_arg_grows (P := Try.prog) w 23 o.type 5 i0 (.int .u8 0) 1 1 Try.underlying23 hi hz0 hz1 hz2 rfl (by decide) ⟨g, 0, none⟩ 0 0 [] rfl (fun j u hu => by simp at hu) ⟨b, o', none⟩ m c (bv l)
      (by rw [length_bv, hlen, Nat.mul_one]) (fun j u hu => by rw [Addr.add_mid]; exact hr j u hu) (by omega) (by unfold maxLen; omega) (by omega)
    have hown : OwnB w' w.heap.size v' l := by
      unfold OwnB
      rw [hlen]
      simpa using r1
    have hO : Only [] w w' := ⟨r2.os, r2.tape, r2.output, r2.size, fun k hk _ => r2.block k hk (by simp)⟩
    obtain ⟨a', c', e, hs', _⟩ := hown.shape
    have hend : K (a.put o.dst v') w' := h v' w' ⟨a', c', by rw [← hlen]; exact e, by rw [← hlen]; exact hs', by
      have := hown.2
      rcases this with ⟨e2, _⟩ | ⟨g2, cap2, cur2, e2, _, _, hnc, _⟩
      · rw [e2] at e; injection e with _ e3 e4; omega
      · rw [e2] at e; injection e with _ e3 e4; omega⟩ (fun _ => hown) hO
    unfold Oper.wp execOp
    simp only [ho, resolve, invoke, builtin, Sem.run_bind, Sem.run_pure, Result.andThen_ok, List.map_toArray, List.map_cons, List.map_nil, hs, hx, hrun]
    exact hend

/-- What the reference's Parse leaves. -/
def RefParseTo (w : World) (x : Option PartM) (e : Ending) (w' : World) : Prop :=
  match x with
  | none => e = .returned (.tuple #[part0, .bool false]) ∧ Only [] w w'
  | some p => ∃ a c, e = .returned (.tuple #[.agg #[.int .i64 p.g, .int .i64 p.r, .int .i64 p.n, .int .i64 p.o, .slice a 52 c], .bool true]) ∧ Src w' a 52 p.d ∧ (∀ x y, a = some ⟨x, y, none⟩ → w.heap.size ≤ x) ∧ Only [] w w'

set_option maxHeartbeats 2000000 in
theorem refparse_len (w : World) (a : Option Addr) (len cap : Nat) (hl : len ≠ 64) :
    Calls Try.prog 55 #[.slice a len cap] w fun e w' => e = .returned (.tuple #[part0, .bool false]) ∧ Only [] w w' := by
  have hne : ((len : Int) != 64) = true := by simp; omega
  go_enter Try.func55, Try.ntmps55
  go_wp2
  (try simp only [Exit.inBlock, Exit.then])
  refine bodyPost_ret_by (results_ct rfl _ _ w.heap.size _ rfl (load_ref _ _ _ (IsBlk.made _ _) rfl)) rfl ?_
  exact ⟨rfl, (Only.refl _ _).alloc _⟩

/-- On the way through the reference's Parse: its own Part, its result's. -/
structure RPS (w W : World) (q gp gd : Nat) (g r n o : Nat) (c : Nat) (d : List UInt8) : Prop where
  box : PBox W gp g r n o (some ⟨gd, 0, none⟩) 52 c 63
  blk : ∃ cur, IsBlk W gd (.cells cur 5)
  src : W.rangeAt gd 0 (bv d)
  out : PBox W q 0 0 0 0 none 0 0 63
  only : Only [] w W
  old : w.heap.size ≤ q
  away : q < gd
theorem RPS.same {w W W' : World} {q gp gd g r n o c : Nat} {d : List UInt8} (h : RPS w W q gp gd g r n o c d) (hO : Only [] W W') : RPS w W' q gp gd g r n o c d := by
  obtain ⟨cur, hb⟩ := h.blk
  exact ⟨IsBlk.only h.box hO (by simp), ⟨cur, hb.only hO (by simp)⟩, rangeAt_only h.src hO hb.lt (by simp), IsBlk.only h.out hO (by simp), h.only.then hO [] (by simp) (by simp), h.old, h.away⟩
theorem RPS.row {w W : World} {q gp gd g r n o c : Nat} {d : List UInt8} (h : RPS w W q gp gd g r n o c d) (hd : d.length = 52) : Src W (some ⟨gd, 0, none⟩) 52 d := by
  obtain ⟨cur, hb⟩ := h.blk
  exact ⟨hd, fun _ => ⟨gd, 0, rfl, hb.lt, h.src⟩⟩
theorem RPS.end {w W : World} {q gp gd g r n o c : Nat} {d : List UInt8} (h : RPS w W q gp gd g r n o c d) (hd : d.length = 52) (g' r' n' o' : Int) (a' : Option Addr) (l' c' : Nat) :
    PBox (W.setCells q 0 (partC g' r' n' o' a' l' c')) q g' r' n' o' a' l' c' 63 ∧ Src (W.setCells q 0 (partC g' r' n' o' a' l' c')) (some ⟨gd, 0, none⟩) 52 d ∧ Only [] w (W.setCells q 0 (partC g' r' n' o' a' l' c')) :=
  ⟨blk_setPart h.out _ _ _ _ _ _ _, (h.row hd).keep ((Only.refl [q] W).setCells q 0 _ (.inl (by simp))) (fun _ b o e => by injection e with e; injection e with e1; have := h.away; simp; omega), h.only.setCells _ _ _ (.inr h.old)⟩

set_option maxRecDepth 100000 in
set_option maxHeartbeats 8000000 in
theorem refparse_any (w : World) (b o cap : Nat) (hcap : 64 ≤ cap) (l : List UInt8) (hs : Src w (some ⟨b, o, none⟩) 64 l) :
    Calls Try.prog 55 #[.slice (some ⟨b, o, none⟩) 64 cap] w (RefParseTo w (parseB l)) := by
  have hl := hs.1
  obtain ⟨b', o', e, hbl, hr⟩ := hs.2 (by omega)
  injection e with e; injection e with e1 e2; subst e1; subst e2
  have hc6 := Src.cell hr 6 (by omega)
  have hc7 := Src.cell hr 7 (by omega)
  have Hs := Lib.hid hs
  have hci4 : (4 : Int) ≤ (cap : Int) := by omega
  have hci6 : (6 : Int) ≤ (cap : Int) := by omega
  have hcne4 : ¬ cap = 4 := by omega
  have hcne12 : ¬ cap = 12 := by omega
  have hci12 : (12 : Int) ≤ (cap : Int) := by omega
  have hci64 : (64 : Int) ≤ (cap : Int) := by omega
  have hrp : readP l = ⟨numB (l.take 4), numB ((l.drop 4).take 2), l[6].toNat, l[7].toNat, l.drop 12⟩ := by
    simp only [readP]; rw [numB_one l 6 (by omega), numB_one l 7 (by omega)]
  have Hrp := Lib.hid hrp
  clear hrp
  have hv6 := (l[6]).toNat_lt
  have hv7 := (l[7]).toNat_lt
  have w2 := wrap_nat (l[6].toNat) (by omega)
  have w3 := wrap_nat (l[7].toNat) (by omega)
  generalize hg6 : l[6].toNat = v6 at *
  generalize hg7 : l[7].toNat = v7 at *
  have Hl := Lib.hid hl
  clear hs hr hg6 hg7
  go_enter Try.func55, Try.ntmps55
  go_upto_region 3 with fail
  go_cut [4] (fun s4 wx => ∃ gp gd c, s4 = .pointer (some ⟨gp, 0, none⟩) ∧ RPS w wx w.heap.size gp gd (numB (l.take 4)) (numB ((l.drop 4).take 2)) v6 v7 c (l.drop 12))
  case first =>
    generalize hGe : numB (l.take 4) = G
    generalize hRe : numB ((l.drop 4).take 2) = R
    have HG := Lib.hid hGe
    have HR := Lib.hid hRe
    clear hGe hRe
    have HO0 : Hid (Only [] w ((w.alloc (Obj.cells #[.int .i64 0, .int .i64 0, .int .i64 0, .int .i64 0, .slice none 0 0] 63)).drew)) := Lib.hid ((Only.refl [] w).alloc _).drew
    have HB0 : Hid (PBox ((w.alloc (Obj.cells #[.int .i64 0, .int .i64 0, .int .i64 0, .int .i64 0, .slice none 0 0] 63)).drew) w.heap.size 0 0 0 0 none 0 0 63) := Lib.hid (IsBlk.made _ _)
    have Hsz : Hid (w.heap.size < ((w.alloc (Obj.cells #[.int .i64 0, .int .i64 0, .int .i64 0, .int .i64 0, .slice none 0 0] 63)).drew).heap.size) := Lib.hid (by simp)
    refine wp_region_stabL (P := Try.prog) 20 (by kernel_rfl) (by kernel_rfl) (Only []) (Only.refl _ _) (fun _ _ _ h k => h.then k [] (by simp) (by simp))
      [SP.is (.slice (some ⟨b, o, none⟩) 64 cap), SP.is (.slice (some ⟨b, o, none⟩) 4 cap), SP.is (.int .i64 G),
       SP.is (.slice (some ⟨b, o, none⟩) 64 cap), SP.is (.slice (some ⟨b, o + 4, none⟩) 2 (cap - 4)), SP.is (.int .i64 R),
       SP.is (.slice (some ⟨b, o, none⟩) 64 cap), SP.is (.pointer (some ⟨b, o + 6, none⟩)), SP.is (.int .u8 v6), SP.is (.int .i64 v6),
       SP.is (.slice (some ⟨b, o, none⟩) 64 cap), SP.is (.pointer (some ⟨b, o + 7, none⟩)), SP.is (.int .u8 v7), SP.is (.int .i64 v7),
       ⟨fun v _ => ∃ g, v = .slice (some ⟨g, 0, none⟩) 0 0, fun _ _ _ h _ => h⟩,
       SP.is (.slice (some ⟨b, o, none⟩) 64 cap), SP.is (.slice (some ⟨b, o + 12, none⟩) 52 (cap - 12)),
       ⟨fun v W => ∃ gd c cur, v = .slice (some ⟨gd, 0, none⟩) 52 c ∧ w.heap.size < gd ∧ IsBlk W gd (.cells cur 5) ∧ W.rangeAt gd 0 (bv (l.drop 12)), fun _ _ _ ⟨gd, c, cur, e, k, h1, h2⟩ hO => ⟨gd, c, cur, e, k, h1.only hO (by simp), rangeAt_only h2 hO h1.lt (by simp)⟩⟩,
       ⟨fun v W => ∃ gd c cur, v = .agg #[.int .i64 G, .int .i64 R, .int .i64 v6, .int .i64 v7, .slice (some ⟨gd, 0, none⟩) 52 c] ∧ w.heap.size < gd ∧ IsBlk W gd (.cells cur 5) ∧ W.rangeAt gd 0 (bv (l.drop 12)), fun _ _ _ ⟨gd, c, cur, e, k, h1, h2⟩ hO => ⟨gd, c, cur, e, k, h1.only hO (by simp), rangeAt_only h2 hO h1.lt (by simp)⟩⟩,
       ⟨fun v W => ∃ g, v = .pointer (some ⟨g, 0, none⟩) ∧ w.heap.size < g ∧ PBox W g 0 0 0 0 none 0 0 63, fun _ _ _ ⟨g, e, hg, h⟩ hO => ⟨g, e, hg, IsBlk.only h hO (by simp)⟩⟩] ?_ ?_
    generalize (w.alloc (Obj.cells #[.int .i64 0, .int .i64 0, .int .i64 0, .int .i64 0, .slice none 0 0] 63)).drew = W0 at *
    · simp only [List.take_succ_cons, List.take_zero]
      refine StepsOK.cons ?_ (StepsOK.cons ?_ (StepsOK.cons ?_ (StepsOK.cons ?_ (StepsOK.cons ?_ (StepsOK.cons ?_ (StepsOK.cons ?_ (StepsOK.cons ?_ (StepsOK.cons ?_ (StepsOK.cons ?_ (StepsOK.cons ?_ (StepsOK.cons ?_ (StepsOK.cons ?_ (StepsOK.cons ?_ (StepsOK.cons ?_ (StepsOK.cons ?_ (StepsOK.cons ?_ (StepsOK.cons ?_ (StepsOK.cons ?_ (StepsOK.cons ?_ StepsOK.nil)))))))))))))))))))
      · intro a W L N hR hold hφ hcl hkp hd K hK
        have e0 := hold 0 (by kernel_rfl)
        clear hold hφ hcl hkp hd
        rw [if_pos (by rfl)]
        go_simp
        exact hK _ _ (Only.refl _ _) rfl
      · intro a W L N hR hold hφ hcl hkp hd K hK
        have e11 := got hφ (hd 0 (by kernel_rfl)) rfl rfl rfl
        clear hold hφ hcl hkp hd
        rw [if_pos (by rfl)]
        go_simp
        exact hK _ _ (Only.refl _ _) rfl
      · intro a W L N hR hold hφ hcl hkp hd K hK
        have e12 := got hφ (hd 1 (by kernel_rfl)) rfl rfl rfl
        clear hold hφ hcl hkp hd
        rw [if_pos (by rfl)]
        go_simp
        refine (num_any W _ _ _ _ (by have := (Hs.out.more (HO0.out.then hR [] (by simp) (by simp))).sub 0 4 (by omega); simpa using this) (by omega)).mono ?_
        rintro e w' ⟨rfl, rfl⟩
        rw [HG.out]
        exact hK _ _ (Only.refl _ _) rfl
      · intro a W L N hR hold hφ hcl hkp hd K hK
        have e0 := hold 0 (by kernel_rfl)
        clear hold hφ hcl hkp hd
        rw [if_pos (by rfl)]
        go_simp
        exact hK _ _ (Only.refl _ _) rfl
      · intro a W L N hR hold hφ hcl hkp hd K hK
        have e14 := got hφ (hd 3 (by kernel_rfl)) rfl rfl rfl
        clear hold hφ hcl hkp hd
        rw [if_pos (by rfl)]
        go_simp
        exact hK _ _ (Only.refl _ _) rfl
      · intro a W L N hR hold hφ hcl hkp hd K hK
        have e15 := got hφ (hd 4 (by kernel_rfl)) rfl rfl rfl
        clear hold hφ hcl hkp hd
        rw [if_pos (by rfl)]
        go_simp
        refine (num_any W _ _ _ _ ((Hs.out.more (HO0.out.then hR [] (by simp) (by simp))).sub 4 2 (by omega)) (by omega)).mono ?_
        rintro e w' ⟨rfl, rfl⟩
        rw [HR.out]
        exact hK _ _ (Only.refl _ _) rfl
      · intro a W L N hR hold hφ hcl hkp hd K hK
        have e0 := hold 0 (by kernel_rfl)
        clear hold hφ hcl hkp hd
        rw [if_pos (by rfl)]
        go_simp
        exact hK _ _ (Only.refl _ _) rfl
      · intro a W L N hR hold hφ hcl hkp hd K hK
        have e17 := got hφ (hd 6 (by kernel_rfl)) rfl rfl rfl
        clear hold hφ hcl hkp hd
        rw [if_pos (by rfl)]
        go_simp
        exact hK _ _ (Only.refl _ _) rfl
      · intro a W L N hR hold hφ hcl hkp hd K hK
        have e18 := got hφ (hd 7 (by kernel_rfl)) rfl rfl rfl
        clear hold hφ hcl hkp hd
        rw [if_pos (by rfl)]
        have hc := only_cell (HO0.out.then hR [] (by simp) (by simp)) hbl hc6
        go_simp
        exact hK _ _ (Only.refl _ _) rfl
      · intro a W L N hR hold hφ hcl hkp hd K hK
        have e19 := got hφ (hd 8 (by kernel_rfl)) rfl rfl rfl
        clear hold hφ hcl hkp hd
        rw [if_pos (by rfl)]
        go_simp
        exact hK _ _ (Only.refl _ _) rfl
      · intro a W L N hR hold hφ hcl hkp hd K hK
        have e0 := hold 0 (by kernel_rfl)
        clear hold hφ hcl hkp hd
        rw [if_pos (by rfl)]
        go_simp
        exact hK _ _ (Only.refl _ _) rfl
      · intro a W L N hR hold hφ hcl hkp hd K hK
        have e21 := got hφ (hd 10 (by kernel_rfl)) rfl rfl rfl
        clear hold hφ hcl hkp hd
        rw [if_pos (by rfl)]
        go_simp
        exact hK _ _ (Only.refl _ _) rfl
      · intro a W L N hR hold hφ hcl hkp hd K hK
        have e22 := got hφ (hd 11 (by kernel_rfl)) rfl rfl rfl
        clear hold hφ hcl hkp hd
        rw [if_pos (by rfl)]
        have hc := only_cell (HO0.out.then hR [] (by simp) (by simp)) hbl hc7
        go_simp
        exact hK _ _ (Only.refl _ _) rfl
      · intro a W L N hR hold hφ hcl hkp hd K hK
        have e23 := got hφ (hd 12 (by kernel_rfl)) rfl rfl rfl
        clear hold hφ hcl hkp hd
        rw [if_pos (by rfl)]
        go_simp
        exact hK _ _ (Only.refl _ _) rfl
      · intro a W L N hR hold hφ hcl hkp hd K hK
        clear hold hφ hcl hkp hd
        rw [if_pos (by rfl)]
        go_simp
        exact hK _ _ ((Only.refl _ _).alloc _) ⟨_, rfl⟩
      · intro a W L N hR hold hφ hcl hkp hd K hK
        have e0 := hold 0 (by kernel_rfl)
        clear hold hφ hcl hkp hd
        rw [if_pos (by rfl)]
        go_simp
        exact hK _ _ (Only.refl _ _) rfl
      · intro a W L N hR hold hφ hcl hkp hd K hK
        have e26 := got hφ (hd 15 (by kernel_rfl)) rfl rfl rfl
        clear hold hφ hcl hkp hd
        rw [if_pos (by rfl)]
        go_simp
        exact hK _ _ (Only.refl _ _) rfl
      · intro a W L N hR hold hφ hcl hkp hd K hK
        obtain ⟨u25, e25, g25, p25⟩ := gotP hφ (hd 14 (by kernel_rfl)) rfl rfl rfl
        have p25 : u25 = .slice (some ⟨g25, 0, none⟩) 0 0 := p25
        subst p25
        have e27 := got hφ (hd 16 (by kernel_rfl)) rfl rfl rfl
        clear hold hφ hcl hkp hd
        rw [if_pos (by rfl)]
        refine wp_append_new _ _ rfl g25 (by simp [Act.eval, e25]) (some ⟨b, o + 12, none⟩) 52 (cap - 12) (l.drop 12) (by simp [Act.eval, e27]) (by have := (Hs.out.more (HO0.out.then hR [] (by simp) (by simp))).sub 12 52 (by omega); rwa [List.take_of_length_le (by rw [List.length_drop]; omega)] at this) (by omega) ?_
        rintro v' W' _ hown hO'
        obtain ⟨gd, c', cur, e, hg, hb, _, hr'⟩ := (hown (by omega)).notNil (fun e => by
          have := (hown (by omega)).1
          rcases (hown (by omega)).2 with ⟨_, h0⟩ | ⟨g2, cap2, cur2, e2, _⟩
          · rw [List.length_drop] at h0; have := Hl.out; omega
          · rw [e2] at e; cases e)
        have hd52 : (l.drop 12).length = 52 := by rw [List.length_drop, Hl.out]
        rw [hd52] at e
        subst e
        exact hK _ _ hO' ⟨gd, c', cur, rfl, by have := hR.size; have := Hsz.out; omega, hb, hr'⟩
      · intro a W L N hR hold hφ hcl hkp hd K hK
        have e13 := got hφ (hd 2 (by kernel_rfl)) rfl rfl rfl
        have e16 := got hφ (hd 5 (by kernel_rfl)) rfl rfl rfl
        have e20 := got hφ (hd 9 (by kernel_rfl)) rfl rfl rfl
        have e24 := got hφ (hd 13 (by kernel_rfl)) rfl rfl rfl
        obtain ⟨u28, e28, g28, c28, cur28, p28, k28, b28, s28⟩ := gotP hφ (hd 17 (by kernel_rfl)) rfl rfl rfl
        have p28 : u28 = .slice (some ⟨g28, 0, none⟩) 52 c28 := p28
        subst p28
        clear hold hφ hcl hkp hd
        rw [if_pos (by rfl)]
        go_simp
        exact hK _ _ (Only.refl _ _) ⟨g28, c28, cur28, rfl, k28, b28, s28⟩
      · intro a W L N hR hold hφ hcl hkp hd K hK
        clear hold hφ hcl hkp hd
        rw [if_pos (by rfl)]
        go_simp
        exact hK _ _ ((Only.refl _ _).alloc _) ⟨_, rfl, by have := hR.size; have := Hsz.out; omega, IsBlk.made _ _⟩
    · intro us W hO hus
      have p18 : ∃ gd c cur, us 18 = .agg #[.int .i64 G, .int .i64 R, .int .i64 v6, .int .i64 v7, .slice (some ⟨gd, 0, none⟩) 52 c] ∧ w.heap.size < gd ∧ IsBlk W gd (.cells cur 5) ∧ W.rangeAt gd 0 (bv (l.drop 12)) := hus 18 _ 29 (by omega) rfl rfl
      have p19 : ∃ g, us 19 = .pointer (some ⟨g, 0, none⟩) ∧ w.heap.size < g ∧ PBox W g 0 0 0 0 none 0 0 63 := hus 19 _ 4 (by omega) rfl rfl
      obtain ⟨gd, c', cur, e18, hgd, hbd, hrd⟩ := p18
      obtain ⟨gp, e19, hgp, hbp⟩ := p19
      clear hus
      simp only [List.take_succ_cons, List.take_zero, List.drop_succ_cons, List.drop_zero, fillAct, Act.put, List.setIfInBounds_toArray, List.set_cons_zero, List.set_cons_succ, Nat.reduceAdd, e18, e19]
      have hO' := HO0.out.then hO [] (by simp) (by simp)
      have hout := IsBlk.only HB0.out hO (by simp)
      have hdp : gd ≠ gp := fun e => by
        subst e
        have := IsBlk.same hbd hbp
        injection this with _ h2 _
        exact absurd h2 (by decide)
      refine wpList_store_part rfl _ sizeRef _ _ rfl gp 0 G R v6 v7 (some ⟨gd, 0, none⟩) 52 c' rfl rfl (there_blk hbp 0 5 (by simp)) ?_
      intro w3 Hw3
      have hRS : RPS w w3 w.heap.size gp gd G R v6 v7 c' (l.drop 12) := by
        rw [Hw3.out]
        exact ⟨blk_setPart hbp _ _ _ _ _ _ _, ⟨cur, (heap_setCells_other gp _ _ _ gd hdp).trans hbd⟩, World.rangeAt_setCells_apart hrd gp _ _ (.inl hdp), (heap_setCells_other gp _ _ _ w.heap.size (by omega)).trans hout, hO'.setCells _ _ _ (.inr (by omega)), Nat.le_refl _, hgd⟩
      clear Hw3
      rw [← HG.out, ← HR.out] at hRS
      have HRS := Lib.hid hRS
      clear hRS
      go_wp2_with fail
      go_meet
      exact ⟨gp, gd, c', rfl, HRS.out⟩
  case rest =>
    obtain ⟨gp, gd, c', rfl, hP2⟩ := hcut
    have HrpG := Hrp
    generalize numB (l.take 4) = G at *
    generalize numB ((l.drop 4).take 2) = R at *
    have hd52 : (l.drop 12).length = 52 := by rw [List.length_drop, Hl.out]
    have d0 : wc.cell? ⟨gp, 0, none⟩ = some (.int .i64 G) := IsBlk.cell hP2.box 0
    have d1 : wc.cell? ⟨gp, 1, none⟩ = some (.int .i64 R) := IsBlk.cell hP2.box 1
    have d2 : wc.cell? ⟨gp, 2, none⟩ = some (.int .i64 v6) := IsBlk.cell hP2.box 2
    have d3 : wc.cell? ⟨gp, 3, none⟩ = some (.int .i64 v7) := IsBlk.cell hP2.box 3
    have d4 : wc.cell? ⟨gp, 4, none⟩ = some (.slice (some ⟨gd, 0, none⟩) 52 c') := IsBlk.cell hP2.box 4
    have Hsd := Lib.hid (hP2.row hd52)
    have HP2 := Lib.hid hP2
    have Hd52 := Lib.hid hd52
    clear hP2 hd52
    cases hok : okB ⟨G, R, v6, v7, l.drop 12⟩ with
    | false =>
      have hno := Lib.hid (parse_no (l := l) (.inl (by rw [Hrp.out]; exact hok)))
      go_wp2_with fail
      refine (refbytes_bad _ G R v6 v7 _ 52 c' (l.drop 12) Hd52.out hok).mono ?_
      rintro e W3 ⟨rfl, hO3⟩
      have hP3 := HP2.out.same hO3
      have HP3 := Lib.hid hP3
      clear hP3 hO3 HP2 d0 d1 d2 d3 d4
      go_wp2_with (refine wpList_store_part rfl _ sizeRef _ _ rfl w.heap.size 0 0 0 0 0 none 0 0 rfl rfl (there_blk HP3.out.out 0 5 (by simp)) ?_; intro w3 Hw3)
      (try simp only [Exit.inBlock, Exit.then])
      have hE := HP3.out.end Hd52.out 0 0 0 0 none 0 0
      rw [← Hw3.out] at hE
      refine bodyPost_ret_by (results_ct rfl _ _ w.heap.size _ rfl (load_ref _ _ _ hE.1 rfl)) rfl ?_
      rw [hno.out]
      exact ⟨rfl, hE.2.2⟩
    | true =>
      go_wp2_with fail
      refine (refbytes_ok _ G R v6 v7 _ 52 c' (l.drop 12) hok Hsd.out).mono ?_
      rintro e W3 ⟨vb, rfl, hb3, hO3⟩
      have hP3 := HP2.out.same hO3
      obtain ⟨ab, cb, rfl, hs3, _⟩ := hb3.shape
      have hlen : (bytesB ⟨G, R, v6, v7, l.drop 12⟩).length = 64 := length_bytesB Hd52.out
      rw [hlen] at hs3 ⊢
      have cv1 := conv_src W3 ab 64 cb _ hs3
      have cv2 := conv_src W3 (some ⟨b, o, none⟩) 64 cap l (Hs.out.more hP3.only)
      have e0 : W3.cell? ⟨gp, 0, none⟩ = some (.int .i64 G) := IsBlk.cell hP3.box 0
      have e1 : W3.cell? ⟨gp, 1, none⟩ = some (.int .i64 R) := IsBlk.cell hP3.box 1
      have e2 : W3.cell? ⟨gp, 2, none⟩ = some (.int .i64 v6) := IsBlk.cell hP3.box 2
      have e3 : W3.cell? ⟨gp, 3, none⟩ = some (.int .i64 v7) := IsBlk.cell hP3.box 3
      have e4 : W3.cell? ⟨gp, 4, none⟩ = some (.slice (some ⟨gd, 0, none⟩) 52 c') := IsBlk.cell hP3.box 4
      have HP3 := Lib.hid hP3
      clear hP3 hO3 HP2 hs3 hb3 d0 d1 d2 d3 d4 hlen
      by_cases heq : bytesB ⟨G, R, v6, v7, l.drop 12⟩ = l
      · have hyes : Hid (parseB l = some ⟨G, R, v6, v7, l.drop 12⟩) := Lib.hid (by
          unfold parseB; rw [if_pos ⟨Hl.out, by rw [Hrp.out]; exact hok, by rw [Hrp.out]; exact heq⟩, Hrp.out])
        rw [heq] at cv1
        clear heq
        go_wp2_with (refine wpList_store_part rfl _ sizeRef _ _ rfl w.heap.size 0 G R v6 v7 (some ⟨gd, 0, none⟩) 52 c' rfl rfl (there_blk HP3.out.out 0 5 (by simp)) ?_; intro w3 Hw3)
        (try simp only [Exit.inBlock, Exit.then])
        have hE := HP3.out.end Hd52.out G R v6 v7 (some ⟨gd, 0, none⟩) 52 c'
        rw [← Hw3.out] at hE
        refine bodyPost_ret_by (results_ct rfl _ _ w.heap.size _ rfl (load_ref _ _ _ hE.1 rfl)) rfl ?_
        rw [hyes.out]
        exact ⟨some ⟨gd, 0, none⟩, c', rfl, hE.2.1, fun x y e => by injection e with e; injection e with e1 e2; have := HP3.out.away; omega, hE.2.2⟩
      · have hno := Lib.hid (parse_no (l := l) (.inr (by rw [Hrp.out]; exact heq)))
        have hsne := strB_beq (bytesB ⟨G, R, v6, v7, l.drop 12⟩) l
        rw [decide_eq_false heq] at hsne
        clear heq
        generalize bytesB ⟨G, R, v6, v7, l.drop 12⟩ = bb at *
        go_wp2_with (refine wpList_store_part rfl _ sizeRef _ _ rfl w.heap.size 0 0 0 0 0 none 0 0 rfl rfl (there_blk HP3.out.out 0 5 (by simp)) ?_; intro w3 Hw3)
        (try simp only [Exit.inBlock, Exit.then])
        have hE := HP3.out.end Hd52.out 0 0 0 0 none 0 0
        rw [← Hw3.out] at hE
        refine bodyPost_ret_by (results_ct rfl _ _ w.heap.size _ rfl (load_ref _ _ _ hE.1 rfl)) rfl ?_
        rw [hno.out]
        exact ⟨rfl, hE.2.2⟩

end Go.Proofs.Ytijhllgogmmgfaa
