/-
  The function areOneRecord of the package sect, by a contract.
-/
import Derived.Test.YtfampoblcielpaaGreatSectI
import Derived.Test.YtfampoblcielpaaGreatSectH
import Derived.Deep.QuietTactic
import Derived.BigQuiet
import Derived.Deep.CutRange
namespace Go.Proofs.YtfampoblcielpaaGreat
set_option linter.unusedVariables false
set_option maxRecDepth 100000
open Go.RowKit

theorem PartAt.keep {S : List Nat} {w w' : World} {b o : Nat} {p : PartM} (h : PartAt w b o p) (hO : Only S w w') (hb : b < w.heap.size) (hbn : b ∉ S) (hn : ∀ a cap x y, w.cell? ⟨b, o + 4, none⟩ = some (.slice a p.d.length cap) → a = some ⟨x, y, none⟩ → x ∉ S) : PartAt w' b o p := by
  obtain ⟨a, cap, hr, hs⟩ := h
  refine ⟨a, cap, rangeAt_only hr hO hb hbn, hs.keep hO (fun _ x y e => hn a cap x y ?_ e)⟩
  exact hr 4 _ rfl
theorem PartsAt.more {w w' : World} {a : Option Addr} {len : Nat} {ps : List PartM} (h : PartsAt w a len ps) (hO : Only [] w w') : PartsAt w' a len ps :=
  ⟨h.1, fun hp => by
    obtain ⟨b, o, rfl, hb, hp⟩ := h.2 hp
    exact ⟨b, o, rfl, Nat.lt_of_lt_of_le hb hO.size, fun i p hi => (hp i p hi).keep hO hb (by simp) (by simp)⟩⟩

theorem rec_keep {w W : World} {b x y q : Nat} {u0 u1 v0 v1 v2 v3 v4 : Value} (hO : Only [] w W) (hb : b < w.heap.size) (hq : q < w.heap.size)
    (c0 : w.cell? ⟨q, 0, none⟩ = some v0) (c1 : w.cell? ⟨q, 1, none⟩ = some v1) (c2 : w.cell? ⟨q, 2, none⟩ = some v2) (c3 : w.cell? ⟨q, 3, none⟩ = some v3) (c4 : w.cell? ⟨q, 4, none⟩ = some v4) (h1 : w.cell? ⟨b, x, none⟩ = some u0) (h2 : w.cell? ⟨b, y, none⟩ = some u1) :
    W.cell? ⟨q, 0, none⟩ = some v0 ∧ W.cell? ⟨q, 1, none⟩ = some v1 ∧ W.cell? ⟨q, 2, none⟩ = some v2 ∧ W.cell? ⟨q, 3, none⟩ = some v3 ∧ W.cell? ⟨q, 4, none⟩ = some v4 ∧ W.cell? ⟨b, x, none⟩ = some u0 ∧ W.cell? ⟨b, y, none⟩ = some u1 :=
  ⟨(hO.cell (p := ⟨q, 0, none⟩) hq (by simp)).trans c0, (hO.cell (p := ⟨q, 1, none⟩) hq (by simp)).trans c1, (hO.cell (p := ⟨q, 2, none⟩) hq (by simp)).trans c2, (hO.cell (p := ⟨q, 3, none⟩) hq (by simp)).trans c3, (hO.cell (p := ⟨q, 4, none⟩) hq (by simp)).trans c4,
    (hO.cell (p := ⟨b, x, none⟩) hb (by simp)).trans h1, (hO.cell (p := ⟨b, y, none⟩) hb (by simp)).trans h2⟩

/-- The worlds on the way through the test: what it reads is as it was. -/
def RecC (w0 : World) (q b o : Nat) (pg pr pn po : Int) (da : Option Addr) (dl dc : Nat) (qg qr : Int) (W : World) : Prop :=
  (W.cell? ⟨q, 0, none⟩ = some (.int .i64 pg) ∧ W.cell? ⟨q, 1, none⟩ = some (.int .i64 pr) ∧ W.cell? ⟨q, 2, none⟩ = some (.int .i64 pn) ∧ W.cell? ⟨q, 3, none⟩ = some (.int .i64 po) ∧ W.cell? ⟨q, 4, none⟩ = some (.slice da dl dc) ∧
    W.cell? ⟨b, o, none⟩ = some (.int .i64 qg) ∧ W.cell? ⟨b, o + 1, none⟩ = some (.int .i64 qr)) ∧ Only [] w0 W

theorem region_quiet_lit {P : Program} {C : World → Prop} {id : Nat} {Q : Exit → Act → World → Prop} {a : Act} {w : World} {l : List Oper} (hm : P.follows .mixedOrders = true) (hB : Region.lexB .any l.toArray = true) (hC : C w.drew)
    (h : wpQuiet P l.toArray C (fun a' => ∀ w', C w' → Q .normal a' w') l a) : (Code.region id l.toArray true).wp P Q a w :=
  wp_region_quiet (C := C) hm hB hC (by simpa using h)

theorem region_rec {P : Program} {id : Nat} {Q : Exit → Act → World → Prop} {a : Act} {w w0 : World} {l : List Oper} {q b o : Nat} {pg pr pn po : Int} {da : Option Addr} {dl dc : Nat} {qg qr : Int} (hm : P.follows .mixedOrders = true) (hB : Region.lexB .any l.toArray = true) (hC : RecC w0 q b o pg pr pn po da dl dc qg qr w.drew)
    (h : wpQuiet P l.toArray (RecC w0 q b o pg pr pn po da dl dc qg qr) (fun a' => ∀ w', RecC w0 q b o pg pr pn po da dl dc qg qr w' → Q .normal a' w') l a) : (Code.region id l.toArray true).wp P Q a w :=
  region_quiet_lit hm hB hC h

theorem oneRec_no {ps : List PartM} {k : Nat} (hk : k < ps.length) (h : recOk ps k = false) : oneRec ps = false := by
  unfold oneRec
  have : (List.range ps.length).all (recOk ps) = false := by
    rw [List.all_eq_false]; exact ⟨k, List.mem_range.2 hk, by rw [h]; simp⟩
  rw [this]; rfl
theorem oneRec_yes {ps : List PartM} (h : ∀ k, k < ps.length → recOk ps k = true) : oneRec ps = decide (0 < ps.length) := by
  unfold oneRec
  have : (List.range ps.length).all (recOk ps) = true := by
    rw [List.all_eq_true]; intro k hk; exact h k (List.mem_range.1 hk)
  rw [this]; rfl

set_option maxHeartbeats 8000000 in
theorem areOne_any (w : World) (a : Option Addr) (len cap : Nat) (ps : List PartM) (h : PartsAt w a len ps) (hlen : len ≤ 100000) :
    Calls Tryz.prog 82 #[.slice a len cap] w fun e w' => e = .returned (.bool (oneRec ps)) ∧ Only [] w w' := by
  have H := Lib.hid h
  have hl := h.1
  clear h
  go_enter Tryz.func82, Tryz.ntmps82
  go_wp2
  go_loopw [7] (fun i wr => ∃ k : Nat, k ≤ len ∧ i = .int .i64 k ∧ (∀ x, x < k → recOk ps x = true) ∧ Only [] w wr) (fun i _ => len - (intOf i).toNat)
  case atStart => exact ⟨0, Nat.zero_le _, rfl, fun x hx => by omega, Only.refl _ _⟩
  case round =>
    obtain ⟨k, hk, rfl, hall, hO⟩ := hrel
    have Hall := Lib.hid hall
    have HO := Lib.hid hO
    clear hall
    by_cases hlt : k < len
    · have hlti : (k : Int) < (len : Int) := by omega
      have hlt0 : (0 : Int) < (len : Int) := by omega
      have hP := (H.out.more hO).2 (by omega)
      obtain ⟨b, o, rfl, hb, hps⟩ := hP
      obtain ⟨p, hp⟩ : ∃ p, ps[k]? = some p := ⟨_, List.getElem?_eq_getElem (by omega)⟩
      obtain ⟨p0, hp0⟩ : ∃ p, ps[0]? = some p := ⟨_, List.getElem?_eq_getElem (by omega)⟩
      have hrk := recOk_at hp hp0
      obtain ⟨da, dc, hr, _⟩ := hps k p hp
      obtain ⟨ea, ec, hr0, _⟩ := hps 0 p0 hp0
      have k0 : wr.cell? ⟨b, o + k * 5, none⟩ = some (.int .i64 p.g) := hr 0 _ rfl
      have k1 : wr.cell? ⟨b, o + k * 5 + 1, none⟩ = some (.int .i64 p.r) := hr 1 _ rfl
      have k2 : wr.cell? ⟨b, o + k * 5 + 2, none⟩ = some (.int .i64 p.n) := hr 2 _ rfl
      have k3 : wr.cell? ⟨b, o + k * 5 + 3, none⟩ = some (.int .i64 p.o) := hr 3 _ rfl
      have k4 : wr.cell? ⟨b, o + k * 5 + 4, none⟩ = some (.slice da p.d.length dc) := hr 4 _ rfl
      have z0 : wr.cell? ⟨b, o, none⟩ = some (.int .i64 p0.g) := by have := hr0 0 _ rfl; simpa using this
      have z1 : wr.cell? ⟨b, o + 1, none⟩ = some (.int .i64 p0.r) := by have := hr0 1 _ rfl; simpa using this
      have Hrk := Lib.hid hrk
      obtain ⟨pg, pr, pn, po, pd⟩ := p
      obtain ⟨qg, qr, qn, qo, qd⟩ := p0
      simp only at k0 k1 k2 k3 k4 z0 z1
      have Hp := Lib.hid hp
      clear hr hr0 hps hrk hp hp0
      go_upto_region 4 with fail
      have c0 : (wr.alloc (.cells #[.int .i64 pg, .int .i64 pr, .int .i64 pn, .int .i64 po, .slice da pd.length dc] 102)).cell? ⟨wr.heap.size, 0, none⟩ = some (.int .i64 pg) := (IsBlk.made wr _).cell 0
      have c1 : (wr.alloc (.cells #[.int .i64 pg, .int .i64 pr, .int .i64 pn, .int .i64 po, .slice da pd.length dc] 102)).cell? ⟨wr.heap.size, 1, none⟩ = some (.int .i64 pr) := (IsBlk.made wr _).cell 1
      have c2 : (wr.alloc (.cells #[.int .i64 pg, .int .i64 pr, .int .i64 pn, .int .i64 po, .slice da pd.length dc] 102)).cell? ⟨wr.heap.size, 2, none⟩ = some (.int .i64 pn) := (IsBlk.made wr _).cell 2
      have c3 : (wr.alloc (.cells #[.int .i64 pg, .int .i64 pr, .int .i64 pn, .int .i64 po, .slice da pd.length dc] 102)).cell? ⟨wr.heap.size, 3, none⟩ = some (.int .i64 po) := (IsBlk.made wr _).cell 3
      have c4 : (wr.alloc (.cells #[.int .i64 pg, .int .i64 pr, .int .i64 pn, .int .i64 po, .slice da pd.length dc] 102)).cell? ⟨wr.heap.size, 4, none⟩ = some (.slice da pd.length dc) := (IsBlk.made wr _).cell 4
      have y0 := ((Only.refl [] wr).alloc (.cells #[.int .i64 pg, .int .i64 pr, .int .i64 pn, .int .i64 po, .slice da pd.length dc] 102)).cell (p := ⟨b, o, none⟩) hb (by simp) |>.trans z0
      have y1 := ((Only.refl [] wr).alloc (.cells #[.int .i64 pg, .int .i64 pr, .int .i64 pn, .int .i64 po, .slice da pd.length dc] 102)).cell (p := ⟨b, o + 1, none⟩) hb (by simp) |>.trans z1
      have HK : Hid (∀ W, Only [] (wr.alloc (.cells #[.int .i64 pg, .int .i64 pr, .int .i64 pn, .int .i64 po, .slice da pd.length dc] 102)) W → RecC (wr.alloc (.cells #[.int .i64 pg, .int .i64 pr, .int .i64 pn, .int .i64 po, .slice da pd.length dc] 102)) wr.heap.size b o pg pr pn po da pd.length dc qg qr W) := Lib.hid (fun W hO => ⟨rec_keep hO (by simp; omega) (by simp) c0 c1 c2 c3 c4 y0 y1, hO⟩)
      clear c0 c1 c2 c3 c4 y0 y1 z0 z1 k0 k1 k2 k3 k4
      go_cut [45] from 12 to 46 (fun s45 wx => s45 = .bool (!recOk ps k) ∧ Only [] w wx)
      case first =>
        cases hok : okB ⟨pg, pr, pn, po, pd⟩ with
        | false =>
          have hrec : recOk ps k = false := by cases hc : recOk ps k with | false => rfl | true => exact absurd (Hrk.out.1 hc).1 (by rw [hok]; simp)
          have Hrec := Lib.hid hrec
          clear hrec
          refine region_rec (by kernel_rfl) (by kernel_rfl) (HK.out _ (Only.refl _ _).drew) ?_
          iterate 34
            (go_big_quiet_step (first
               | (intro hW
                  go_at_call 75
                  refine (isPart_any _ _ _ _ _ da pd.length dc pd rfl).mono ?_
                  rw [hok]
                  rintro e w'' ⟨rfl, hO2⟩
                  exact ⟨rfl, HK.out _ (hW.2.then hO2 [] (by simp) (by simp))⟩)
               | (intro hW
                  obtain ⟨⟨q0, q1, q2, q3, q4, q5, q6⟩, hW2⟩ := hW
                  go_simp
                  first | done | exact rfl | exact ⟨rfl, rfl⟩)))
          refine wpQuiet_nil ?_
          intro wq hwq
          have hOq := hwq.2
          clear hwq
          go_wp2_with fail
          go_meet
          exact ⟨by rw [Hrec.out]; rfl, ((HO.out.alloc _).then hOq [] (by simp) (by simp))⟩
        | true =>
          by_cases hg : pg = qg
          · subst hg
            by_cases hr : pr = qr
            · subst hr
              by_cases hn : pn = (k : Int)
              · subst hn
                by_cases hoo : po = (len : Int)
                · subst hoo
                  have hrec : recOk ps k = true := Hrk.out.2 ⟨hok, rfl, rfl, rfl, by rw [hl]⟩
                  have Hrec := Lib.hid hrec
                  clear hrec
                  refine region_rec (by kernel_rfl) (by kernel_rfl) (HK.out _ (Only.refl _ _).drew) ?_
                  iterate 34
                    (go_big_quiet_step (first
                       | (intro hW
                          go_at_call 75
                          refine (isPart_any _ _ _ _ _ da pd.length dc pd rfl).mono ?_
                          rw [hok]
                          rintro e w'' ⟨rfl, hO2⟩
                          exact ⟨rfl, HK.out _ (hW.2.then hO2 [] (by simp) (by simp))⟩)
                       | (intro hW
                          obtain ⟨⟨q0, q1, q2, q3, q4, q5, q6⟩, hW2⟩ := hW
                          go_simp
                          first | done | exact rfl | exact ⟨rfl, rfl⟩)))
                  refine wpQuiet_nil ?_
                  intro wq hwq
                  have hOq := hwq.2
                  clear hwq
                  go_wp2_with fail
                  go_meet
                  exact ⟨by rw [Hrec.out]; rfl, ((HO.out.alloc _).then hOq [] (by simp) (by simp))⟩
                · have hne : (po != (len : Int)) = true := by simpa using hoo
                  have hrec : recOk ps k = false := by cases hc : recOk ps k with | false => rfl | true => exact absurd (by have := (Hrk.out.1 hc).2.2.2.2; rw [hl] at this; exact this) hoo
                  have Hrec := Lib.hid hrec
                  clear hrec
                  clear hoo
                  refine region_rec (by kernel_rfl) (by kernel_rfl) (HK.out _ (Only.refl _ _).drew) ?_
                  iterate 34
                    (go_big_quiet_step (first
                       | (intro hW
                          go_at_call 75
                          refine (isPart_any _ _ _ _ _ da pd.length dc pd rfl).mono ?_
                          rw [hok]
                          rintro e w'' ⟨rfl, hO2⟩
                          exact ⟨rfl, HK.out _ (hW.2.then hO2 [] (by simp) (by simp))⟩)
                       | (intro hW
                          obtain ⟨⟨q0, q1, q2, q3, q4, q5, q6⟩, hW2⟩ := hW
                          go_simp
                          first | done | exact rfl | exact ⟨rfl, rfl⟩)))
                  refine wpQuiet_nil ?_
                  intro wq hwq
                  have hOq := hwq.2
                  clear hwq
                  go_wp2_with fail
                  go_meet
                  exact ⟨by rw [Hrec.out]; rfl, ((HO.out.alloc _).then hOq [] (by simp) (by simp))⟩
              · have hne : (pn != (k : Int)) = true := by simpa using hn
                have hrec : recOk ps k = false := by cases hc : recOk ps k with | false => rfl | true => exact absurd (Hrk.out.1 hc).2.2.2.1 hn
                have Hrec := Lib.hid hrec
                clear hrec
                clear hn
                refine region_rec (by kernel_rfl) (by kernel_rfl) (HK.out _ (Only.refl _ _).drew) ?_
                iterate 34
                  (go_big_quiet_step (first
                     | (intro hW
                        go_at_call 75
                        refine (isPart_any _ _ _ _ _ da pd.length dc pd rfl).mono ?_
                        rw [hok]
                        rintro e w'' ⟨rfl, hO2⟩
                        exact ⟨rfl, HK.out _ (hW.2.then hO2 [] (by simp) (by simp))⟩)
                     | (intro hW
                        obtain ⟨⟨q0, q1, q2, q3, q4, q5, q6⟩, hW2⟩ := hW
                        go_simp
                        first | done | exact rfl | exact ⟨rfl, rfl⟩)))
                refine wpQuiet_nil ?_
                intro wq hwq
                have hOq := hwq.2
                clear hwq
                go_wp2_with fail
                go_meet
                exact ⟨by rw [Hrec.out]; rfl, ((HO.out.alloc _).then hOq [] (by simp) (by simp))⟩
            · have hne : (pr != qr) = true := by simpa using hr
              have hrec : recOk ps k = false := by cases hc : recOk ps k with | false => rfl | true => exact absurd (Hrk.out.1 hc).2.2.1 hr
              have Hrec := Lib.hid hrec
              clear hrec
              clear hr
              refine region_rec (by kernel_rfl) (by kernel_rfl) (HK.out _ (Only.refl _ _).drew) ?_
              iterate 34
                (go_big_quiet_step (first
                   | (intro hW
                      go_at_call 75
                      refine (isPart_any _ _ _ _ _ da pd.length dc pd rfl).mono ?_
                      rw [hok]
                      rintro e w'' ⟨rfl, hO2⟩
                      exact ⟨rfl, HK.out _ (hW.2.then hO2 [] (by simp) (by simp))⟩)
                   | (intro hW
                      obtain ⟨⟨q0, q1, q2, q3, q4, q5, q6⟩, hW2⟩ := hW
                      go_simp
                      first | done | exact rfl | exact ⟨rfl, rfl⟩)))
              refine wpQuiet_nil ?_
              intro wq hwq
              have hOq := hwq.2
              clear hwq
              go_wp2_with fail
              go_meet
              exact ⟨by rw [Hrec.out]; rfl, ((HO.out.alloc _).then hOq [] (by simp) (by simp))⟩
          · have hne : (pg != qg) = true := by simpa using hg
            have hrec : recOk ps k = false := by cases hc : recOk ps k with | false => rfl | true => exact absurd (Hrk.out.1 hc).2.1 hg
            have Hrec := Lib.hid hrec
            clear hrec
            clear hg
            refine region_rec (by kernel_rfl) (by kernel_rfl) (HK.out _ (Only.refl _ _).drew) ?_
            iterate 34
              (go_big_quiet_step (first
                 | (intro hW
                    go_at_call 75
                    refine (isPart_any _ _ _ _ _ da pd.length dc pd rfl).mono ?_
                    rw [hok]
                    rintro e w'' ⟨rfl, hO2⟩
                    exact ⟨rfl, HK.out _ (hW.2.then hO2 [] (by simp) (by simp))⟩)
                 | (intro hW
                    obtain ⟨⟨q0, q1, q2, q3, q4, q5, q6⟩, hW2⟩ := hW
                    go_simp
                    first | done | exact rfl | exact ⟨rfl, rfl⟩)))
            refine wpQuiet_nil ?_
            intro wq hwq
            have hOq := hwq.2
            clear hwq
            go_wp2_with fail
            go_meet
            exact ⟨by rw [Hrec.out]; rfl, ((HO.out.alloc _).then hOq [] (by simp) (by simp))⟩
      case rest =>
        obtain ⟨rfl, hOc⟩ := hcut
        cases hrec : recOk ps k with
        | true =>
          have Hrec := Lib.hid hrec
          clear hrec
          go_wp2
          go_roundw
          case rel => exact ⟨k + 1, by omega, by go_num, fun x hx => by rcases Nat.lt_or_eq_of_le (Nat.le_of_lt_succ hx) with h | rfl; exact Hall.out x h; exact Hrec.out, hOc⟩
          case measure => simp [intOf]; omega
        | false =>
          have hno := Lib.hid (oneRec_no (ps := ps) (k := k) (by omega) hrec)
          clear hrec
          go_wp2
          go_ret
          exact ⟨ret_bool hno.out.symm, hOc⟩
    · have hge : ¬ (k : Int) < (len : Int) := by omega
      obtain rfl : k = len := by omega
      have hone := Lib.hid (oneRec_yes (ps := ps) (fun x hx => Hall.out x (by omega)))
      go_wp2
      go_ret
      refine ⟨ret_bool ?_, HO.out⟩
      rw [hone.out, hl]
      try rfl

end Go.Proofs.YtfampoblcielpaaGreat
