/-
  The document's own log (package deadboltref3): record, by a contract.
-/
import Derived.Test.YtijhllgogmmgfaaWalV
import Derived.Test.YtijhllgogmmgfaaWalQ
namespace Go.Proofs.Ytijhllgogmmgfaa
set_option maxRecDepth 100000
set_option linter.unusedVariables false
open Go.RowKit

/-- What record finds: as the package's own one, of any generation where none is asked for. -/
def rrecM (S : Secs) (from' len : Nat) (gen rec : Int) : Option (List UInt8 × Nat) := recM (halfP S from' len) (if 0 < gen then gen else (secP (S from')).g) rec

/-- What record answers. -/
def RRecTo (w : World) (x : Option (List UInt8 × Nat)) (e : Ending) (w' : World) : Prop :=
  match x with
  | none => ∃ k a l c, e = .returned (.tuple #[.int .i64 k, .slice a l c, .bool false]) ∧ Only [] w w'
  | some (b, k) => ∃ a c, e = .returned (.tuple #[.int .i64 k, .slice a b.length c, .bool true]) ∧ Src w' a b.length b ∧ (∀ x y, a = some ⟨x, y, none⟩ → w.heap.size ≤ x) ∧ Only [] w w'

/-- What a record's Parts are. -/
theorem rec_all {ps : List PartM} {g r : Int} {b : List UInt8} {k : Nat} (h : recM ps g r = some (b, k)) : ∃ p0, ps[0]? = some p0 ∧ p0.g = g ∧ p0.r = r ∧ k = p0.o.toNat ∧ p0.o ≤ (ps.length : Int) ∧ p0.n = 0 ∧ ∀ i q, i < k → ps[i]? = some q → okB q = true := by
  cases hps : ps with
  | nil => rw [hps] at h; cases h
  | cons p0 r' =>
    have h0 : ps[0]? = some p0 := by rw [hps]; rfl
    by_cases hc : p0.g = g ∧ p0.r = r ∧ p0.o ≤ (ps.length : Int)
    · rw [recM_yes h0 hc] at h
      cases hj : joinB (ps.take p0.o.toNat) with
      | none => rw [hj] at h; cases h
      | some b' =>
        rw [hj] at h
        simp at h
        have hpos := join_pos hj
        rw [List.length_take] at hpos
        have h0' : (ps.take p0.o.toNat)[0]? = some p0 := by rw [List.getElem?_take, if_pos (by omega)]; exact h0
        obtain ⟨hm, hl, he, -⟩ := cut_join h0' hj
        have hall : ∀ i q, i < p0.o.toNat → ps[i]? = some q → okB q = true ∧ q.n = (i : Int) := fun i q hi hq => by
          have hq' : (ps.take p0.o.toNat)[i]? = some q := by rw [List.getElem?_take, if_pos hi]; exact hq
          rw [he] at hq'
          obtain ⟨hq2, hk2⟩ := cutP_get _ _ _ _ _ hq'
          refine ⟨?_, by rw [hq2]⟩
          rw [hq2]; exact cut_okB hm hl hk2
        have hn := (hall 0 p0 (by omega) h0).2
        rw [hps] at hall
        rw [← hps]
        exact ⟨p0, h0, hc.1, hc.2.1, h.2.symm, hc.2.2, by simpa using hn, fun i q hi hq => (hall i q (by omega) (by rw [← hps]; exact hq)).1⟩
    · rw [recM_no h0 hc] at h; cases h

theorem none_of {α : Type} {x : Option α} (h : ∀ y, x = some y → False) : x = none := by cases x with | none => rfl | some y => exact (h y rfl).elim

theorem okB_noPart : okB noPart = false := by decide
theorem secP_some {b : List UInt8} {p : PartM} (h : parseB b = some p) : secP b = p := by unfold secP; rw [h]; rfl
theorem secP_none {b : List UInt8} (h : parseB b = none) : secP b = noPart := by unfold secP; rw [h]; rfl

theorem results_tmp3' {fn : Func} {t u v : Tmp} (h : fn.results = #[.tmp t, .tmp u, .tmp v]) (tmps : Array Value) (P : Program) (w : World) :
    (results fn tmps).run P w = .ok (.tuple #[tmps.getD t undef, tmps.getD u undef, tmps.getD v undef]) w := by
  simp [results, h]

set_option maxHeartbeats 4000000 in
theorem rrecord_any (w : World) (B : Nat) (R : RefP) (D : RS) (from' len : Nat) (gen rec : Int) (h : RefAt w B R D) (hd : D.dead = false) (hx : from' + len ≤ D.n) :
    Calls Try.prog 36 #[.pointer (some ⟨R.q, 0, none⟩), .int .i64 from', .int .i64 ((from' + len : Nat) : Int), .int .i64 gen, .int .i64 rec] w (RRecTo w (rrecM D.now from' len gen rec)) := by
  have hsm := h.small
  by_cases hl0 : len = 0
  · subst hl0
    have hno : Hid (rrecM D.now from' 0 gen rec = none) := Lib.hid (by unfold rrecM; simp [halfP, recM])
    have hge : ((from' + 0 : Nat) : Int) ≤ (from' : Int) := by omega
    go_enter Try.func36, Try.ntmps36
    go_wp2
    (try simp only [Exit.inBlock, Exit.then])
    refine bodyPost_ret (results_tmp3' rfl _ _ _) rfl ?_
    rw [hno.out]
    exact ⟨0, none, 0, 0, rfl, Only.refl _ _⟩
  have hlti : ¬ ((from' + len : Nat) : Int) ≤ (from' : Int) := by omega
  have H := Lib.hid h
  clear h
  have g0 := get_halfP (S := D.now) (at_ := from') (n := len) (i := 0) (by omega)
  rw [Nat.add_zero] at g0
  have hlen := length_halfP D.now from' len
  have hps : ∀ i, i < len → (halfP D.now from' len)[i]? = some (secP (D.now (from' + i))) := fun i hi => get_halfP hi
  cases hp : parseB (D.now from') with
  | none =>
    have hno : Hid (rrecM D.now from' len gen rec = none) := Lib.hid (none_of fun y hy => by
      obtain ⟨b, k⟩ := y
      obtain ⟨hk0, -⟩ := recM_pos hy
      obtain ⟨p0, h1, -, -, h2, -, -, h3⟩ := rec_all hy
      have := h3 0 p0 hk0 h1
      rw [g0] at h1; injection h1 with h1
      rw [← h1, secP_none hp, okB_noPart] at this; cases this)
    go_enter Try.func36, Try.ntmps36
    go_wp2_with fail
    refine (rpart_any _ B R D from' H.out hd (by omega)).mono ?_
    rw [hp]
    rintro e w1 ⟨a1, c1, rfl, hs1, -, hO1⟩
    simp only [Option.getD_none, noPart, List.length_nil, Option.isSome_none] at hs1 ⊢
    clear hp g0 hps
    go_wp2
    (try simp only [Exit.inBlock, Exit.then])
    refine bodyPost_ret (results_tmp3' rfl _ _ _) rfl ?_
    rw [hno.out]
    exact ⟨0, none, 0, 0, rfl, hO1.alloc _⟩
  | some p =>
    have hok := (parse_ok hp).1
    obtain ⟨⟨ho1, ho2, ho3, ho4⟩, ho5, ho6, ho7, ho8, ho9⟩ := okB_iff.1 hok
    have hsp := secP_some hp
    rw [hsp] at g0
    go_enter Try.func36, Try.ntmps36
    go_wp2_with fail
    refine (rpart_any _ B R D from' H.out hd (by omega)).mono ?_
    rw [hp]
    rintro e w1 ⟨a1, c1, rfl, hs1, -, hO1⟩
    simp only [Option.getD_some, Option.isSome_some] at hs1 ⊢
    have hrr : Hid (rrecM D.now from' len gen rec = recM (halfP D.now from' len) (if 0 < gen then gen else p.g) rec) := Lib.hid (by unfold rrecM; rw [hsp])
    obtain ⟨pg, pr, pn, po, pdd⟩ := p
    simp only at ho1 ho2 ho3 ho4 ho5 ho6 ho7 ho8 ho9 hs1 hrr
    have Ho9 := Lib.hid ho9
    clear ho9
    have G0 := Lib.hid g0
    have Hps := Lib.hid hps
    clear g0 hps hp hsp
    have HO1 := Lib.hid hO1
    have hsz1 := hO1.size
    clear hO1
    have hnone : ∀ (hbad : ¬ (pn = 0 ∧ pr = rec ∧ ¬ (0 < gen ∧ pg ≠ gen) ∧ po ≤ (len : Int))), Hid (rrecM D.now from' len gen rec = none) := fun hbad => Lib.hid (none_of fun y hy => by
      obtain ⟨b, k⟩ := y
      rw [hrr.out] at hy
      obtain ⟨p0, h1, h2, h3, -, h4, h5, -⟩ := rec_all hy
      rw [G0.out] at h1; injection h1 with h1
      subst h1
      rw [hlen] at h4
      exact hbad ⟨h5, h3, fun hc => by rw [if_pos hc.1] at h2; exact hc.2 h2, h4⟩)
    have Hnone := Lib.hid hnone
    clear hnone
    by_cases t1 : pn = 0
    · have t1i : (pn != 0) = false := by simpa using t1
      have T1 := Lib.hid t1
      clear t1
      by_cases t2 : pr = rec
      · have t2i : (pr != rec) = false := by simpa using t2
        have T2 := Lib.hid t2
        clear t2
        by_cases t4 : po ≤ (len : Int)
        · have t4i : ¬ ((from' + len : Nat) : Int) < (from' : Int) + po := by omega
          by_cases t3 : 0 < gen ∧ pg ≠ gen
          · have t3i : (pg != gen) = true := by simpa using t3.2
            have t3g := t3.1
            have hno := Hnone.out (fun h => h.2.2.1 t3)
            clear Hnone t3
            go_wp2
            (try simp only [Exit.inBlock, Exit.then])
            refine bodyPost_ret (results_tmp3' rfl _ _ _) rfl ?_
            rw [hno.out]
            exact ⟨0, none, 0, 0, rfl, HO1.out.alloc _⟩
          · go_upto_region 4 with fail
            go_cut [59] (fun s59 wx => s59 = .bool false ∧ wx = w1.alloc (.cells #[.int .i64 pg, .int .i64 pr, .int .i64 pn, .int .i64 po, .slice a1 pdd.length c1] 63))
            case first =>
              by_cases hgen : 0 < gen
              · have t3i : (pg != gen) = false := by simpa using (show pg = gen from Classical.byContradiction fun hne => t3 ⟨hgen, hne⟩)
                clear t3 Hnone
                go_wp2_with fail
                go_meet
                exact ⟨by rw [decide_eq_false (by omega)], rfl⟩
              · clear t3 Hnone
                go_wp2_with fail
                go_meet
                exact ⟨by rw [decide_eq_false (by omega)], rfl⟩
            case rest =>
              obtain ⟨rfl, rfl⟩ := hcut
              obtain ⟨K, hK⟩ : ∃ K : Nat, po = (K : Int) := ⟨po.toNat, by omega⟩
              subst hK
              have hKl : K ≤ len := by omega
              have hK1 : 1 ≤ K ∧ K ≤ 255 := by omega
              have hbox := IsBlk.made w1 (.cells #[.int .i64 pg, .int .i64 pr, .int .i64 pn, .int .i64 K, .slice a1 pdd.length c1] 63)
              have hOb := HO1.out.alloc (.cells #[.int .i64 pg, .int .i64 pr, .int .i64 pn, .int .i64 K, .slice a1 pdd.length c1] 63)
              have hfin : Hid (rrecM D.now from' len gen rec = (joinB ((halfP D.now from' len).take K)).map (fun b => (b, K))) := Lib.hid (by
                rw [hrr.out, recM_yes G0.out ⟨?_, T2.out, by rw [hlen]; exact t4⟩]
                · rfl
                · show pg = _
                  by_cases hgen : 0 < gen
                  · rw [if_pos hgen]; exact Classical.byContradiction fun hne => t3 ⟨hgen, hne⟩
                  · rw [if_neg hgen])
              clear Hnone t3 hrr
              have HOb := Lib.hid hOb
              have Hbox := Lib.hid hbox
              clear hOb hbox HO1
              generalize w1.alloc (.cells #[.int .i64 pg, .int .i64 pr, .int .i64 pn, .int .i64 K, .slice a1 pdd.length c1] 63) = w2 at *
              generalize w1.heap.size = q at *
              have hszb := HOb.out.size
              go_wp2_with fail
              go_loopw [15, 16] (fun v i wr => ∃ j : Nat, j ≤ K ∧ i = .int .i64 j ∧ RowP wr w2.heap.size v ((halfP D.now from' len).take j) ∧ (∀ x, x < j → okB (secP (D.now (from' + x))) = true) ∧ Only [] w2 wr) (fun _ i _ => K - (intOf i).toNat)
              case atStart => exact ⟨0, Nat.zero_le _, rfl, by simpa using RowP.nil _ _, fun x hx => by omega, Only.refl _ _⟩
              case round =>
                obtain ⟨j, hj, rfl, hrow, hoks, hOr⟩ := hrel
                have Hrow := Lib.hid hrow
                have Hoks := Lib.hid hoks
                have HOr := Lib.hid hOr
                have hszr := hOr.size
                have b3 : wr.cell? ⟨q, 3, none⟩ = some (.int .i64 K) := (Hbox.out.only hOr (by simp)).cell 3
                clear hrow hoks hOr
                by_cases hlt : j < K
                · have hlti : (j : Int) < (K : Int) := by omega
                  go_wp2_with fail
                  have ex : (from' : Int) + (j : Int) = ((from' + j : Nat) : Int) := by omega
                  rw [ex]
                  refine (rpart_any _ B R D (from' + j) (H.out.more (HOb.out.plus HOr.out)) hd (by omega)).mono ?_
                  clear ex
                  cases hq : parseB (D.now (from' + j)) with
                  | none =>
                    rintro e w3 ⟨a3, c3, rfl, hs3, -, hO3⟩
                    have hno : Hid (rrecM D.now from' len gen rec = none) := Lib.hid (by
                      rw [hfin.out]
                      cases hjn : joinB ((halfP D.now from' len).take K) with
                      | none => rfl
                      | some bb =>
                        exfalso
                        have h0' : ((halfP D.now from' len).take K)[0]? = some ⟨pg, pr, pn, K, pdd⟩ := by rw [List.getElem?_take, if_pos (by omega)]; exact G0.out
                        obtain ⟨hm', hl', he', -⟩ := cut_join h0' hjn
                        have hj' : ((halfP D.now from' len).take K)[j]? = some (secP (D.now (from' + j))) := by rw [List.getElem?_take, if_pos hlt]; exact Hps.out j (by omega)
                        rw [he'] at hj'
                        obtain ⟨hq2, hk2⟩ := cutP_get _ _ _ _ _ hj'
                        have := cut_okB hm' hl' hk2
                        rw [← hq2, secP_none hq, okB_noPart] at this; cases this)
                    simp only [Option.getD_none, noPart, List.length_nil, Option.isSome_none] at hs3 ⊢
                    clear hq
                    have HO3 := Lib.hid hO3
                    clear hO3
                    go_wp2
                    (try simp only [Exit.inBlock, Exit.then])
                    refine bodyPost_ret (results_tmp3' rfl _ _ _) rfl ?_
                    rw [hno.out]
                    exact ⟨0, none, 0, 0, rfl, ((HOb.out.plus HOr.out).plus HO3.out).alloc _⟩
                  | some q' =>
                    rintro e w3 ⟨a3, c3, rfl, hs3, hnw3, hO3⟩
                    simp only [Option.getD_some, Option.isSome_some] at hs3 ⊢
                    have hok' := (parse_ok hq).1
                    have hsq := secP_some hq
                    have hA3 := (Only.refl [] w3).alloc (.cells #[.int .i64 q'.g, .int .i64 q'.r, .int .i64 q'.n, .int .i64 q'.o, .slice a3 q'.d.length c3] 63)
                    have hrow4 : RowP (w3.alloc (.cells #[.int .i64 q'.g, .int .i64 q'.r, .int .i64 q'.n, .int .i64 q'.o, .slice a3 q'.d.length c3] 63)) w2.heap.size u15 ((halfP D.now from' len).take j) := Hrow.out.more (hO3.plus hA3)
                    have hdn : 0 < q'.d.length → ∀ b o, a3 = some ⟨b, o, none⟩ → u15.ownBlock ≠ some b := fun _ b o e e2 => by
                      obtain ⟨xs, hown, -⟩ := Hrow.out
                      have h1 := (World.ownsRow.lt hown b e2).2
                      have h2 := hnw3 b o e
                      omega
                    have hsz3 := hO3.size
                    have Hrow4 := Lib.hid hrow4
                    have Hs4 := Lib.hid (hs3.more hA3)
                    have Hdn := Lib.hid hdn
                    have HO4 := Lib.hid ((HOr.out.plus hO3).plus hA3)
                    have hsz4 : w2.heap.size ≤ (w3.alloc (.cells #[.int .i64 q'.g, .int .i64 q'.r, .int .i64 q'.n, .int .i64 q'.o, .slice a3 q'.d.length c3] 63)).heap.size := HO4.out.size
                    have Hok' := Lib.hid hok'
                    have Hsq := Lib.hid hsq
                    have htl : ((halfP D.now from' len).take j).length ≤ 1000 := by rw [List.length_take, hlen]; omega
                    clear hrow4 hs3 hdn hA3 hO3 hok' hsq hnw3 hq b3
                    go_wp2_with (at_builtin; (refine wpList_partP (p := q') (dc := c3) Hrow4.out hsz4 htl Hs4.out Hdn.out rfl _ _ rfl rfl _ _ rfl (by simp) ?_); intro v5 w5 hrow5 hO5)
                    have hO5' : Only [] w2 w5 := HO4.out.then hO5 [] (by simp) (fun i hi => .inr (by obtain ⟨xs, hown, -⟩ := Hrow4.out; exact (World.ownsRow.lt hown i (mem_ownL.1 hi)).1))
                    have Hrow5 := Lib.hid hrow5
                    clear hrow5 hO5
                    go_roundw
                    case rel =>
                      refine ⟨j + 1, by omega, by go_num, ?_, fun x hx => ?_, hO5'⟩
                      · have hjl : j < (halfP D.now from' len).length := by rw [hlen]; omega
                        rw [take_snoc _ j hjl]
                        have he : (halfP D.now from' len)[j] = q' := by have := Hps.out j (by omega); rw [List.getElem?_eq_getElem hjl, Hsq.out] at this; injection this
                        rw [he]; exact Hrow5.out
                      · by_cases hxj : x = j
                        · subst hxj; rw [Hsq.out]; exact Hok'.out
                        · exact Hoks.out x (by omega)
                    case measure => simp [intOf]; omega
                · have hge : ¬ (j : Int) < (K : Int) := by omega
                  obtain rfl : j = K := by omega
                  obtain ⟨va, vc, rfl, hpa⟩ := Hrow.out.parts
                  have htl : ((halfP D.now from' len).take j).length = j := by rw [List.length_take, hlen]; omega
                  rw [htl] at hpa ⊢
                  have Hpa := Lib.hid hpa
                  clear hpa htl
                  go_wp2_with fail
                  refine (refjoin_any _ va j vc _ Hpa.out).mono ?_
                  cases hjn : joinB ((halfP D.now from' len).take j) with
                  | none =>
                    rintro e w5 ⟨rfl, hO5⟩
                    have hno : Hid (rrecM D.now from' len gen rec = none) := Lib.hid (by rw [hfin.out, hjn]; rfl)
                    have b5 : w5.cell? ⟨q, 3, none⟩ = some (.int .i64 j) := (Hbox.out.only (HOr.out.plus hO5) (by simp)).cell 3
                    have HO5 := Lib.hid ((HOb.out.plus HOr.out).plus hO5)
                    clear hjn hO5 b3
                    go_wp2
                    (try simp only [Exit.inBlock, Exit.then])
                    refine bodyPost_ret (results_tmp3' rfl _ _ _) rfl ?_
                    rw [hno.out]
                    exact ⟨_, none, 0, 0, rfl, HO5.out⟩
                  | some bb =>
                    rintro e w5 ⟨a5, c5, rfl, hs5, hn5, hO5⟩
                    have Hn5 := Lib.hid hn5
                    clear hn5
                    have hno : Hid (rrecM D.now from' len gen rec = some (bb, j)) := Lib.hid (by rw [hfin.out, hjn]; rfl)
                    have b5 : w5.cell? ⟨q, 3, none⟩ = some (.int .i64 j) := (Hbox.out.only (HOr.out.plus hO5) (by simp)).cell 3
                    have HO5 := Lib.hid ((HOb.out.plus HOr.out).plus hO5)
                    have Hs5 := Lib.hid hs5
                    clear hjn hO5 b3 hs5
                    go_wp2
                    (try simp only [Exit.inBlock, Exit.then])
                    refine bodyPost_ret (results_tmp3' rfl _ _ _) rfl ?_
                    rw [hno.out]
                    exact ⟨a5, c5, rfl, Hs5.out, fun x y e => by have := Hn5.out x y e; have := HOr.out.size; omega, HO5.out⟩
        · have t4i : ((from' + len : Nat) : Int) < (from' : Int) + po := by omega
          have hno := Hnone.out (fun h => t4 h.2.2.2)
          by_cases hgen : 0 < gen
          · by_cases hgg : pg = gen
            · have t3i : (pg != gen) = false := by simpa using hgg
              clear Hnone hgg
              go_wp2
              (try simp only [Exit.inBlock, Exit.then])
              refine bodyPost_ret (results_tmp3' rfl _ _ _) rfl ?_
              rw [hno.out]
              exact ⟨0, none, 0, 0, rfl, HO1.out.alloc _⟩
            · have t3i : (pg != gen) = true := by simpa using hgg
              clear Hnone hgg
              go_wp2
              (try simp only [Exit.inBlock, Exit.then])
              refine bodyPost_ret (results_tmp3' rfl _ _ _) rfl ?_
              rw [hno.out]
              exact ⟨0, none, 0, 0, rfl, HO1.out.alloc _⟩
          · clear Hnone
            go_wp2
            (try simp only [Exit.inBlock, Exit.then])
            refine bodyPost_ret (results_tmp3' rfl _ _ _) rfl ?_
            rw [hno.out]
            exact ⟨0, none, 0, 0, rfl, HO1.out.alloc _⟩
      · have t2i : (pr != rec) = true := by simpa using t2
        have hno := Hnone.out (fun h => t2 h.2.1)
        clear Hnone t2
        go_wp2
        (try simp only [Exit.inBlock, Exit.then])
        refine bodyPost_ret (results_tmp3' rfl _ _ _) rfl ?_
        rw [hno.out]
        exact ⟨0, none, 0, 0, rfl, HO1.out.alloc _⟩
    · have t1i : (pn != 0) = true := by simpa using t1
      have hno := Hnone.out (fun h => t1 h.1)
      clear Hnone t1
      go_wp2
      (try simp only [Exit.inBlock, Exit.then])
      refine bodyPost_ret (results_tmp3' rfl _ _ _) rfl ?_
      rw [hno.out]
      exact ⟨0, none, 0, 0, rfl, HO1.out.alloc _⟩

end Go.Proofs.Ytijhllgogmmgfaa
