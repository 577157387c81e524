/-
  The function Join of the package sect, by a contract.
-/
import Derived.Test.YtfampoblcielpaaGreatSectJ
namespace Go.Proofs.YtfampoblcielpaaGreat
set_option linter.unusedVariables false
set_option maxRecDepth 100000
open Go.RowKit

theorem make_cap (w : World) (n : Nat) (hn : n ≤ 100000000) : ∃ C : Array Value, C.size = n ∧ (Instr.makeSlice 37 (.int .i64 0) (.int .i64 n)).run Tryz.prog w =
    .ok (.slice (some ⟨w.heap.size, 0, none⟩) 0 n) (w.alloc (.cells C 5)) := by
  obtain ⟨i0, hi, hz0, hz1, hz2⟩ := info_parts info5
  have := run_make (P := Tryz.prog) w 37 5 i0 _ Tryz.underlying37 hi hz0 .i64 .i64 0 n (by omega) (by omega) (by rw [hz2]; omega) (by omega)
  rw [hz1] at this
  exact ⟨_, size_madeCells _ _, by simpa using this⟩
theorem OwnB.made (w : World) (base : Nat) (C : Array Value) (n : Nat) (hb : base ≤ w.heap.size) (hn : n ≤ 100000000) (hC : C.size = n) : OwnB (w.alloc (.cells C 5)) base (.slice (some ⟨w.heap.size, 0, none⟩) 0 n) [] :=
  World.ownsRow_made w C n hb (by unfold maxLen; omega) (by omega)
theorem OwnB.full {w : World} {base : Nat} {v : Value} {l : List UInt8} (h : OwnB w base v l) (hl : 0 < l.length) : ∃ g cap cur, v = .slice (some ⟨g, 0, none⟩) l.length cap ∧ base ≤ g ∧ IsBlk w g (.cells cur 5) ∧ l.length ≤ cap ∧ w.rangeAt g 0 (bv l) := by
  rcases h.2 with ⟨rfl, h0⟩ | ⟨g, cap, cur, rfl, hb, hg, hnc, _, hsz, htake⟩
  · omega
  · refine ⟨g, cap, cur, rfl, hb, hg, hnc, fun j u hu => ?_⟩
    have := World.ownsRow.cells h (g := g) rfl j u hu
    rw [Addr.add_mid] at this
    exact this
theorem PartsAt.below {B : Nat} {w w' : World} {a : Option Addr} {len : Nat} {ps : List PartM} (h : PartsAt w a len ps) (hb : Below B w w') (hB : w.heap.size ≤ B) : PartsAt w' a len ps :=
  h.more ⟨hb.os, hb.tape, hb.output, hb.size, fun k hk _ => hb.block k (by omega)⟩
theorem only_below {w w' : World} (hb : Below w.heap.size w w') : Only [] w w' := ⟨hb.os, hb.tape, hb.output, hb.size, fun k hk _ => hb.block k hk⟩

/-- What Join leaves. -/
def JoinTo (w : World) (x : Option (List UInt8)) (e : Ending) (w' : World) : Prop :=
  match x with
  | none => e = .returned (.tuple #[.slice none 0 0, .bool false]) ∧ Only [] w w'
  | some b => ∃ a, e = .returned (.tuple #[.slice a b.length b.length, .bool true]) ∧ Src w' a b.length b ∧ (∀ x y, a = some ⟨x, y, none⟩ → w.heap.size ≤ x ∧ ∃ cur, IsBlk w' x (.cells cur 5)) ∧ Only [] w w'

theorem join_none {ps : List PartM} (h : ¬ fitsP ps) : joinB ps = none := by unfold joinB; rw [if_neg h]
theorem join_some {ps : List PartM} (h : fitsP ps) : joinB ps = some (((flatP ps).drop 4).take (toldP ps)) := by unfold joinB; rw [if_pos h]
theorem flat_take (ps : List PartM) (k : Nat) (h : k < ps.length) : flatP (ps.take (k + 1)) = flatP (ps.take k) ++ (ps[k]).d := by rw [take_snoc ps k h, flatP_snoc]
theorem rangeSrc {w : World} {g : Nat} {l : List UInt8} (h : w.rangeAt g 0 (bv l)) (hg : g < w.heap.size) : Src w (some ⟨g, 0, none⟩) l.length l := ⟨rfl, fun _ => ⟨g, 0, rfl, hg, h⟩⟩

set_option maxHeartbeats 8000000 in
theorem join_any (w : World) (a : Option Addr) (len cap : Nat) (ps : List PartM) (h : PartsAt w a len ps) (hlen : len ≤ 100000) :
    Calls Tryz.prog 72 #[.slice a len cap] w (JoinTo w (joinB ps)) := by
  have H := Lib.hid h
  have hl := Lib.hid h.1
  clear h
  cases hone : oneRec ps with
  | false =>
    have hno := Lib.hid (join_none (ps := ps) (fun h => by have h1 := h.1; rw [hone] at h1; cases h1))
    go_enter Tryz.func72, Tryz.ntmps72
    go_wp2_with fail
    refine (areOne_any _ a len cap ps H.out hlen).mono ?_
    rw [hone]
    rintro e w1 ⟨rfl, hO1⟩
    go_wp2
    go_ret2
    rw [hno.out]
    exact ⟨rfl, hO1⟩
  | true =>
    have hpos : 0 < len := by
      have := hone; unfold oneRec at this; simp only [Bool.and_eq_true, decide_eq_true_eq] at this; have := this.2; rw [hl.out] at this; exact this
    obtain ⟨p0, hp0⟩ : ∃ p, ps[0]? = some p := ⟨_, List.getElem?_eq_getElem (by rw [hl.out]; exact hpos)⟩
    have hrec := (oneRec_iff hp0).1 hone
    have hd : ∀ p ∈ ps, p.d.length = 52 := fun p hp => by
      obtain ⟨k, hk⟩ := List.getElem?_of_mem hp
      exact (okB_iff.1 (hrec k p hk).1).2.2.2.2.2
    have hlen255 : len ≤ 255 := by
      obtain ⟨hok, _, _, _, ho⟩ := hrec 0 p0 hp0
      have := (okB_iff.1 hok).2.2.1; rw [ho, hl.out] at this; omega
    have Hd := Lib.hid hd
    have Hfl := Lib.hid (length_flatP hd)
    clear hrec hd hp0
    have hcapn : ((len : Int) * 52) = ((len * 52 : Nat) : Int) := by omega
    go_enter Tryz.func72, Tryz.ntmps72
    go_wp2_with fail
    refine (areOne_any _ a len cap ps H.out hlen).mono ?_
    rw [hone]
    rintro e w1 ⟨rfl, hO1⟩
    obtain ⟨C, hC, hmk⟩ := make_cap w1 (len * 52) (by omega)
    rw [← hcapn] at hmk
    have HP1 := Lib.hid (H.out.more hO1)
    have HO1 := Lib.hid hO1
    have HC := Lib.hid hC
    have Hcapn := Lib.hid hcapn
    clear hO1 hC hcapn
    go_wp2_with fail
    go_loopw [4, 18] (fun v i wr => ∃ k : Nat, k ≤ len ∧ i = .int .i64 k ∧ OwnB wr w1.heap.size v (flatP (ps.take k)) ∧ Below w1.heap.size w1 wr) (fun _ i _ => len - (intOf i).toNat)
    case atStart => exact ⟨0, Nat.zero_le _, rfl, by simpa [flatP] using OwnB.made w1 w1.heap.size C (len * 52) (Nat.le_refl _) (by omega) HC.out, (Below.refl _ _).alloc (Nat.le_refl _) _⟩
    case round =>
      obtain ⟨k, hk, rfl, hown, hbel⟩ := hrel
      have hsz := hbel.size
      have Hbel := Lib.hid hbel
      by_cases hlt : k < len
      · have hlti : (k : Int) < (len : Int) := by omega
        have hkl : k < ps.length := by rw [hl.out]; exact hlt
        obtain ⟨b, o, rfl, hb, hps⟩ := (HP1.out.below hbel (Nat.le_refl _)).2 (by omega)
        obtain ⟨da, dc, hr, hs⟩ := hps k ps[k] (List.getElem?_eq_getElem hkl)
        have Hft := Lib.hid (flat_take ps k hkl)
        have hlk : (flatP (ps.take k)).length ≤ 100000 := by
          rw [length_flatP (fun p hp => Hd.out p (List.mem_of_mem_take hp)), List.length_take]; omega
        have hd52 : ps[k].d.length = 52 := Hd.out _ (List.getElem_mem hkl)
        generalize ps[k] = p at *
        have k0 : wr.cell? ⟨b, o + k * 5, none⟩ = some (.int .i64 p.g) := hr 0 _ rfl
        have k1 : wr.cell? ⟨b, o + k * 5 + 1, none⟩ = some (.int .i64 p.r) := hr 1 _ rfl
        have k2 : wr.cell? ⟨b, o + k * 5 + 2, none⟩ = some (.int .i64 p.n) := hr 2 _ rfl
        have k3 : wr.cell? ⟨b, o + k * 5 + 3, none⟩ = some (.int .i64 p.o) := hr 3 _ rfl
        have k4 : wr.cell? ⟨b, o + k * 5 + 4, none⟩ = some (.slice da p.d.length dc) := hr 4 _ rfl
        have hown1 := fun ob => Lib.hid (hown.alloc ob)
        have hs1 := fun ob => Lib.hid (hs.more ((Only.refl [] wr).alloc ob))
        obtain ⟨pg, pr, pn, po, pd⟩ := p
        simp only at k0 k1 k2 k3 k4 hd52 hs1 Hft
        clear hr hs hps hown hbel
        have Hd52 := Lib.hid hd52
        clear hd52
        go_wp2_with (at_builtin; refine wpList_append_b rfl _ _ rfl w1.heap.size _ _ rfl (hown1 _).out da pd.length dc pd rfl (hs1 _).out (by rw [Hd52.out]; omega) (by simp; omega) ?_; intro v' w2 h2 h3 h4; clear h4)
        go_roundw
        case rel => exact ⟨k + 1, by omega, by go_num, by rw [Hft.out]; exact h2, Hbel.out.trans (((Below.refl _ wr).alloc (by omega) _).trans h3)⟩
        case measure => simp [intOf]; omega
      · have hge : ¬ (k : Int) < (len : Int) := by omega
        obtain rfl : k = len := by omega
        rw [List.take_of_length_le (by rw [hl.out]; exact Nat.le_refl _)] at hown
        obtain ⟨g, gcap, cur, rfl, hg, hblk, hcp, hr⟩ := hown.full (by rw [Hfl.out, hl.out]; omega)
        have hOw : Only [] w wr := HO1.out.then (only_below hbel) [] (by simp) (by simp)
        have hsw := rangeSrc hr hblk.lt
        rw [Hfl.out, hl.out] at hsw hcp
        rw [Hfl.out, hl.out]
        have hs4 := Lib.hid (hsw.sub 0 4 (by omega))
        have Hsw := Lib.hid hsw
        have HOw := Lib.hid hOw
        have Hblk := Lib.hid hblk
        have hg0 := HO1.out.size
        have htl : numB (((flatP ps).drop 0).take 4) = toldP ps := by rw [List.drop_zero]; rfl
        have htlt : toldP ps < 4294967296 := by
          have := numB_lt ((flatP ps).take 4)
          rw [List.length_take, Hfl.out, hl.out, Nat.min_eq_left (by omega)] at this
          simpa [toldP] using this
        have hci4 : (4 : Int) ≤ (gcap : Int) := by omega
        have Hone := Lib.hid hone
        clear hown hbel hsw hOw hblk hr HP1 hone
        go_wp2_with fail
        refine (number_any _ _ _ _ _ hs4.out (by omega)).mono ?_
        rw [htl]
        rintro e w' ⟨rfl, rfl⟩
        clear htl hs4
        have HTp := Lib.hid (show toldP ps = toldP ps from rfl)
        have hnof := fun (hnf : ¬ (toldP ps ≤ ps.length * 52 - 4 ∧ partsN (toldP ps) = ps.length ∧ ((flatP ps).drop (4 + toldP ps)).all (· == 0) = true)) => Lib.hid (join_none (ps := ps) (fun h => hnf h.2))
        have Hnof := Lib.hid hnof
        have hyes := fun (hf : toldP ps ≤ ps.length * 52 - 4 ∧ partsN (toldP ps) = ps.length ∧ ((flatP ps).drop (4 + toldP ps)).all (· == 0) = true) => Lib.hid (join_some (ps := ps) ⟨Hone.out, hf⟩)
        have Hyes := Lib.hid hyes
        clear hnof hyes
        generalize hT0 : toldP ps = T at *
        clear hT0
        have hlk := hl.out
        by_cases hT : T ≤ k * 52 - 4
        · have hTi : ¬ ((k : Int) * 52 - 4 < (T : Int)) := by omega
          go_wp2_with fail
          refine (partsFor_N _ T (by omega)).mono ?_
          rintro e w' ⟨rfl, rfl⟩
          by_cases hpn : partsN T = k
          · have hpb : ((partsN T : Int) != (k : Int)) = false := by simp; omega
            have Hpn := Lib.hid hpn
            clear hpn
            generalize partsN T = N at *
            have hend : (4 : Int) + T ≤ gcap := by omega
            have hdl : Hid (((flatP ps).drop (4 + T)).length = k * 52 - (4 + T)) := Lib.hid (by rw [List.length_drop, Hfl.out, hlk])
            have hbl : Hid ((((flatP ps).drop 4).take T).length = T) := Lib.hid (by rw [List.length_take, List.length_drop, Hfl.out, hlk]; omega)
            go_wp2_with fail
            all_goals
              refine (areNoughts_any _ _ _ _ ((flatP ps).drop (4 + T)) (by
                first
                  | exact ⟨hdl.out, fun hp => by omega⟩
                  | (have h1 := Hsw.out.sub (4 + T) (k * 52 - (4 + T)) (by omega)
                     rw [Nat.zero_add, List.take_of_length_le (by rw [hdl.out]; exact Nat.le_refl _)] at h1
                     exact h1)) (by omega)).mono ?_
              cases hz : ((flatP ps).drop (4 + T)).all (· == 0) with
              | false =>
                rintro e w' ⟨rfl, rfl⟩
                have hno := Hnof.out (fun h => by have h1 := h.2.2; rw [hz] at h1; cases h1)
                clear hz
                go_wp2
                go_ret2
                rw [hno.out]
                exact ⟨rfl, HOw.out⟩
              | true =>
                rintro e w' ⟨rfl, rfl⟩
                have hy := Hyes.out ⟨by rw [hlk]; exact hT, by rw [hlk]; exact Hpn.out, hz⟩
                clear hz
                rcases Nat.eq_zero_or_pos T with hT0 | hT0
                · subst hT0
                  go_wp2
                  go_ret2
                  rw [hy.out]
                  exact ⟨_, by rw [hbl.out]; rfl, by rw [hbl.out]; exact ⟨hbl.out, fun hp => by omega⟩, fun x y e => by injection e with e; injection e with e1 e2; subst e1; exact ⟨by omega, _, Hblk.out⟩, HOw.out⟩
                · have hTne : ¬ T = 0 := by omega
                  go_wp2
                  go_ret2
                  rw [hy.out]
                  exact ⟨some ⟨g, 4, none⟩, by rw [hbl.out]; show Ending.returned (.tuple #[.slice (some ⟨g, 4, none⟩) (4 + T - 4) (4 + T - 4), .bool true]) = _; rw [Nat.add_sub_cancel_left], by rw [hbl.out]; have h1 := Hsw.out.sub 4 T (by omega); rw [Nat.zero_add] at h1; exact h1, fun x y e => by injection e with e; injection e with e1 e2; subst e1; exact ⟨by omega, _, Hblk.out⟩, HOw.out⟩
          · have hno := Hnof.out (fun h => hpn (by rw [← hlk]; exact h.2.1))
            have hpb : ((partsN T : Int) != (k : Int)) = true := by simp; omega
            generalize partsN T = N at *
            clear hpn
            go_wp2
            go_ret2
            rw [hno.out]
            exact ⟨rfl, HOw.out⟩
        · have hno := Hnof.out (fun h => hT (by rw [← hlk]; exact h.1))
          have hTi : (k : Int) * 52 - 4 < (T : Int) := by omega
          go_wp2
          go_ret2
          rw [hno.out]
          exact ⟨rfl, HOw.out⟩

end Go.Proofs.YtfampoblcielpaaGreat
