/-
  The document's own log (package deadboltref3): Append, Fresh, by contracts.
-/
import Derived.Test.YtijhllgogmmgfaaWalAA
namespace Go.Proofs.Ytijhllgogmmgfaa
set_option maxRecDepth 100000
set_option linter.unusedVariables false
open Go.RowKit

def RAppTo (w : World) (B lp : Nat) (R : RefP) (x : LS × DS × Bool × Int) (e : Ending) (w' : World) : Prop :=
  e = .returned (.tuple #[.bool x.2.2.1, .int .i64 x.2.2.2]) ∧ RLogAt w' lp R.q x.1 ∧ RefAt w' B R (refOf x.2.1) ∧ Only (lp :: R.own) w w'
def RFreshTo (w : World) (B lp : Nat) (R : RefP) (x : LS × DS × Int) (e : Ending) (w' : World) : Prop :=
  e = .returned (.int .i64 x.2.2) ∧ RLogAt w' lp R.q x.1 ∧ RefAt w' B R (refOf x.2.1) ∧ Only (lp :: R.own) w w'

/-- The blocks of the reference's disk are there. -/
theorem RefAt.owns {w : World} {B : Nat} {R : RefP} {D : RS} (h : RefAt w B R D) : ∀ k ∈ R.own, k < w.heap.size := by
  have h1 := h.blk.lt; have h2 := h.lN; have h3 := h.lL; have h4 := h.lB
  intro k hk
  simp only [RefP.own, List.mem_cons, List.not_mem_nil, or_false] at hk
  rcases hk with rfl | rfl | rfl | rfl <;> assumption

theorem RefAt.keep' {w w' : World} {B : Nat} {R : RefP} {D : RS} {S : List Nat} (h : RefAt w B R D) (ho : Only S w w') (hS : ∀ k ∈ S, k < B ∨ (k ∉ R.own ∧ NB w k)) : RefAt w' B R D := by
  have hn : ∀ k, B ≤ k → k ∈ R.own → k ∉ S := fun k hk hR hm => by
    rcases hS k hm with h1 | h1
    · omega
    · exact h1.1 hR
  have hS' : ∀ k ∈ S, k < B ∨ NB w k := fun k hk => (hS k hk).imp id (fun h => h.2)
  have nq := hn _ h.gq (by simp [RefP.own])
  have nN := hn _ h.gN (by simp [RefP.own])
  have nL := hn _ h.gL (by simp [RefP.own])
  have nB := hn _ h.gB (by simp [RefP.own])
  exact ⟨h.blk.only ho nq, h.now.keep ho h.lN nN hS', h.last.keep ho h.lL nL hS',
    fun i hi => (ho.cell (p := ⟨R.gB, i, none⟩) h.lB nB).trans (h.new i hi), fun i => (ho.frozen (p := ⟨R.gN, i, none⟩) h.lN nN).trans (h.fN i), fun i => (ho.frozen (p := ⟨R.gL, i, none⟩) h.lL nL).trans (h.fL i),
    fun i => (ho.frozen (p := ⟨R.gB, i, none⟩) h.lB nB).trans (h.fB i), h.gq, h.gN, h.gL, h.gB, Nat.lt_of_lt_of_le h.lN ho.size, Nat.lt_of_lt_of_le h.lL ho.size, Nat.lt_of_lt_of_le h.lB ho.size, h.qN, h.qL, h.qB, h.NL, h.NB_, h.LB, h.pos, h.small⟩
theorem RLogAt.nb {w : World} {lp q : Nat} {L : LS} (h : RLogAt w lp q L) : NB w lp := fun m e => by
  have := h.c0; rw [e] at this; simp at this

theorem RefCutTo.shape {w w' : World} {g r : Int} {b : List UInt8} {N : Nat} {e : Ending} (h : RefCutTo w g r b N e w') (hN : N ≤ 255) (hb : N = partsN b.length) : ∃ gl cap, e = .returned (.tuple #[.slice (some ⟨gl, 0, none⟩) N cap, .int .i64 0]) ∧ PartsN w' w.heap.size gl (cutP g r b) ∧ Only [] w w' := by
  obtain ⟨h1, -, hO⟩ := h
  obtain ⟨v, rfl, hrow⟩ := h1 hN
  obtain ⟨gl, cap, rfl, hP⟩ := hrow.news (by rw [length_cutP]; exact partsN_pos _)
  exact ⟨gl, cap, by rw [length_cutP, hb], hP, hO⟩

set_option maxHeartbeats 4000000 in
theorem rappend_none (w : World) (B lp : Nat) (R : RefP) (L : LS) (D : DS) (a : Option Addr) (cap : Nat) (b : List UInt8) (h : RLogAt w lp R.q L) (hd : RefAt w B R (refOf D)) (hs : Src w a b.length b) (hl : partsN b.length ≤ 255) (hbl : b.length ≤ 100000) (hg : L.gen = 0) (hq0 : 0 ≤ L.seq) (hq1 : L.seq ≤ 65535) :
    Calls Try.prog 15 #[.pointer (some ⟨lp, 0, none⟩), .slice a b.length cap] w (RAppTo w B lp R (appM L D b)) := by
  have e1 : Hid (appM L D b = (L, D, false, 0)) := Lib.hid (by unfold appM; rw [if_pos (.inl hg)])
  have H := Lib.hid h
  have Hd := Lib.hid hd
  have Hs := Lib.hid hs
  have d2 := h.c2
  have d5 := h.c5
  rw [hg] at d2
  have hm : mayB 1 L.seq = true := mayB_iff.2 ⟨by omega, by omega, by omega, by omega⟩
  clear h hd hs hg
  go_enter Try.func15, Try.ntmps15
  go_upto_region 1 with fail
  go_cut [6, 7] (fun s6 s7 wx => ∃ gl c, s6 = .slice (some ⟨gl, 0, none⟩) (partsN b.length) c ∧ s7 = .int .i64 0 ∧ Only [] w wx)
  case first =>
    go_region_held3 (fun W => W.cell? ⟨lp, 2, none⟩ = some (.int .i64 0) ∧ W.cell? ⟨lp, 5, none⟩ = some (.int .i64 L.seq)) (first | exact ⟨d2, d5⟩ | assumption)
      (first
        | (go_at_call 23
           refine (refcut_any _ 1 L.seq a cap b (Hs.out.more (Only.refl [] w).drew) hm hbl).mono ?_
           intro e w1 hcut
           obtain ⟨gl, c, rfl, -, hO1⟩ := hcut.shape hl rfl
           have hO1' := ((Only.refl [] w).drew).plus hO1
           have hS1 : w1.cell? ⟨lp, 2, none⟩ = some (.int .i64 0) ∧ w1.cell? ⟨lp, 5, none⟩ = some (.int .i64 L.seq) := ⟨(hO1'.cell (p := ⟨lp, 2, none⟩) (IsBlk.lt H.out) (by simp)).trans d2, (H.out.more hO1').c5⟩))
    all_goals
      go_wp2_with fail
      go_meet
      exact ⟨gl, c, rfl, rfl, hO1'⟩
  case rest =>
    obtain ⟨gl, c, rfl, rfl, hO⟩ := hcut
    have f0 := (H.out.more hO).c0
    have f2 : wc.cell? ⟨lp, 2, none⟩ = some (.int .i64 0) := (hO.cell (p := ⟨lp, 2, none⟩) (IsBlk.lt H.out) (by simp)).trans d2
    have HO := Lib.hid hO
    clear hO d2 d5
    go_wp2_with fail
    refine (rsize_any _ B R _ (Hd.out.more HO.out)).mono ?_
    rintro e w' ⟨rfl, rfl⟩
    go_wp2
    go_ret2
    unfold RAppTo
    rw [e1.out]
    exact ⟨rfl, H.out.more HO.out, Hd.out.more HO.out, HO.out.into (by simp)⟩

set_option maxHeartbeats 4000000 in
theorem rappend_some (w : World) (B lp : Nat) (R : RefP) (L : LS) (D : DS) (K : Int) (a : Option Addr) (cap : Nat) (b : List UInt8) (h : RLogAt w lp R.q L) (hd : RefAt w B R (refOf D)) (hn : D.n = 2 * L.size) (hc : D.calm K) (hK : K < 100000) (hs : Src w a b.length b) (hl : partsN b.length ≤ 255) (hbl : b.length ≤ 100000) (hm : mayB L.gen L.seq = true) (hlp : lp ∉ R.own) (hh : L.half ≤ 1) (hnx : L.next ≤ L.size) :
    Calls Try.prog 15 #[.pointer (some ⟨lp, 0, none⟩), .slice a b.length cap] w (RAppTo w B lp R (appM L D b)) := by
  have hsm : D.n ≤ 256 := hd.small
  obtain ⟨hg0, hg1, hq0, hq1⟩ := mayB_iff.1 hm
  have hgz : (L.gen == 0) = false := by simp; omega
  have hgl1 : ¬ L.gen < 1 := by omega
  have e1 : Hid (L.next + partsN b.length ≤ L.size → appM L D b = (if (wrM D (L.half * L.size + L.next) (secsB L.gen L.seq b)).2 = 0 then { L with next := L.next + partsN b.length, seq := L.seq + 1 } else L, (wrM D (L.half * L.size + L.next) (secsB L.gen L.seq b)).1, decide ((wrM D (L.half * L.size + L.next) (secsB L.gen L.seq b)).2 = 0), (wrM D (L.half * L.size + L.next) (secsB L.gen L.seq b)).2)) := Lib.hid (fun hf => by
    unfold appM; rw [if_neg (by omega)])
  have e2 : Hid (L.size < L.next + partsN b.length → appM L D b = (L, D, false, 0)) := Lib.hid (fun hf => by unfold appM; rw [if_pos (.inr hf)])
  have H := Lib.hid h
  have Hd := Lib.hid hd
  have Hs := Lib.hid hs
  have Hc := Lib.hid hc
  have d2 := h.c2
  have d5 := h.c5
  have hlw := IsBlk.lt h
  clear h hd hs hc
  go_enter Try.func15, Try.ntmps15
  go_upto_region 1 with fail
  go_cut [6, 7] (fun s6 s7 wx => ∃ gl c, s6 = .slice (some ⟨gl, 0, none⟩) (partsN b.length) c ∧ s7 = .int .i64 0 ∧ PartsN wx w.heap.size gl (cutP L.gen L.seq b) ∧ Only [] w wx)
  case first =>
    go_region_held3 (fun W => W.cell? ⟨lp, 2, none⟩ = some (.int .i64 L.gen) ∧ W.cell? ⟨lp, 5, none⟩ = some (.int .i64 L.seq)) (first | exact ⟨d2, d5⟩ | assumption)
      (first
        | (go_at_call 23
           refine (refcut_any _ L.gen L.seq a cap b (Hs.out.more (Only.refl [] w).drew) hm hbl).mono ?_
           intro e w1 hcut
           obtain ⟨gl, c, rfl, hP1, hO1⟩ := hcut.shape hl rfl
           have hO1' := ((Only.refl [] w).drew).plus hO1
           have hS1 : w1.cell? ⟨lp, 2, none⟩ = some (.int .i64 L.gen) ∧ w1.cell? ⟨lp, 5, none⟩ = some (.int .i64 L.seq) := ⟨(H.out.more hO1').c2, (H.out.more hO1').c5⟩))
    all_goals
      go_wp2_with fail
      go_meet
      exact ⟨gl, c, rfl, rfl, hP1, hO1'⟩
  case rest =>
    obtain ⟨gl, c, rfl, rfl, hP, hO⟩ := hcut
    have HL1 := Lib.hid (H.out.more hO)
    have HR1 := Lib.hid (Hd.out.more hO)
    have f0 := HL1.out.c0
    have f2 := HL1.out.c2
    have f4 := HL1.out.c4
    have HO := Lib.hid hO
    have HP := Lib.hid hP
    clear hO hP d2 d5
    go_wp2_with fail
    refine (rsize_any _ B R _ HR1.out).mono ?_
    rintro e w' ⟨rfl, rfl⟩
    rw [show (refOf D).n = 2 * L.size from hn]
    by_cases hf : L.next + partsN b.length ≤ L.size
    · have hfi : ¬ ((L.size : Int) < (L.next : Int) + (partsN b.length : Int)) := by omega
      have E1 := Lib.hid (e1.out hf)
      clear e1 e2
      have em : (L.half : Int) * (L.size : Int) = ((L.half * L.size : Nat) : Int) := by simp
      have hhs : L.half * L.size ≤ L.size := by
        rcases Nat.le_one_iff_eq_zero_or_eq_one.1 hh with h0 | h0 <;> rw [h0] <;> omega
      have f3 := HL1.out.c3
      generalize hat : L.half * L.size = hs2 at *
      obtain ⟨x, hx⟩ : ∃ x, x = hs2 + L.next := ⟨_, rfl⟩
      rw [← hx] at E1
      have hw1 : IntKind.i64.wrap (hs2 : Int) = (hs2 : Int) := wrap_nat hs2 (by omega)
      have hw2 : IntKind.i64.wrap ((hs2 : Int) + (L.next : Int)) = (x : Int) := by rw [hx]; exact wrap_nat (hs2 + L.next) (by omega)
      have hx2 : x ≤ 1000 := by omega
      have HRO := Lib.hid Hd.out.owns
      clear hx hat
      go_upto_region 5 with fail
      go_cut [7] (fun s7 wx => s7 = .int .i64 (wrM D x (secsB L.gen L.seq b)).2 ∧ RefAt wx B R (refOf (wrM D x (secsB L.gen L.seq b)).1) ∧ Only R.own wc wx)
      case first =>
        go_region_held3 (fun W => W.cell? ⟨lp, 3, none⟩ = some (.int .i64 L.half) ∧ W.cell? ⟨lp, 4, none⟩ = some (.int .i64 L.next)) (first | exact ⟨f3, f4⟩ | assumption)
          (first
            | (go_at_call 41
               refine (rwr_parts _ B w.heap.size gl c lp R L D K x L.gen L.seq b (HL1.out.more (Only.refl [] wc).drew) (HR1.out.more (Only.refl [] wc).drew) Hc.out hK hm hl (HP.out.keep (Only.refl [] wc).drew (by simp)) HRO.out hlp hx2).mono ?_
               rintro e w1 ⟨rfl, hR1, hO1⟩
               have hO1' : Only R.own wc w1 := (((Only.refl [] wc).drew).into (by simp)).same hO1
               have hS1 : w1.cell? ⟨lp, 3, none⟩ = some (.int .i64 L.half) ∧ w1.cell? ⟨lp, 4, none⟩ = some (.int .i64 L.next) := ⟨(HL1.out.keep hO1' hlp).c3, (HL1.out.keep hO1' hlp).c4⟩))
        all_goals
          go_wp2_with fail
          go_meet
          exact ⟨rfl, hR1, hO1'⟩
      case rest =>
        obtain ⟨rfl, hR2, hO2⟩ := hcut
        generalize wrM D x (secsB L.gen L.seq b) = RR at *
        obtain ⟨D', ec⟩ := RR
        simp only at E1 hR2
        have HL2 := Lib.hid (HL1.out.keep hO2 hlp)
        have HR2 := Lib.hid hR2
        have HO2 := Lib.hid ((HO.out.into (by simp)).then hO2 (lp :: R.own) (fun i hi => .inl hi) (fun i hi => .inl (List.mem_cons_of_mem _ hi)))
        clear hR2 hO2 f0 f2 f3 f4 HL1 HR1 HO HP em hw1 hw2
        by_cases hec : ec = 0
        · subst hec
          have g4 := HL2.out.c4
          have g5 := HL2.out.c5
          have y4 := HL2.out.fz 4
          have y5 := HL2.out.fz 5
          go_wp2_with fail
          go_region
          go_wp2
          go_ret2
          have hL3 := ((HL2.out.put4 (L.next + partsN b.length)).put5 (L.seq + 1)).more (Only.refl [] _).drew
          have hO3 : Only [lp] wc ((wc.setCell ⟨lp, 4, none⟩ (.int .i64 ((L.next + partsN b.length : Nat) : Int))).setCell ⟨lp, 5, none⟩ (.int .i64 (L.seq + 1))).drew := (((Only.refl [lp] wc).setCell (by simp) _).setCell (by simp) _).drew
          have hR3 := HR2.out.keep' hO3 (fun k hk => .inr (by simp at hk; subst hk; exact ⟨hlp, HL2.out.nb⟩))
          have ek : ((L.next : Int) + (partsN b.length : Int)) = ((L.next + partsN b.length : Nat) : Int) := by omega
          rw [ek]
          unfold RAppTo
          rw [E1.out]
          first | rw [if_pos rfl] | rw [if_pos trivial]
          exact ⟨by simp, hL3, hR3, HO2.out.then hO3 (lp :: R.own) (fun i hi => .inl hi) (by simp)⟩
        · have hecb : (ec != 0) = true := by simpa using hec
          have hne : Hid (¬ ec = 0) := Lib.hid hec
          clear hec
          go_wp2
          go_ret2
          unfold RAppTo
          rw [E1.out, if_neg hne.out]
          exact ⟨by simp [hne.out], HL2.out, HR2.out, HO2.out⟩
    · have hfi : (L.size : Int) < (L.next : Int) + (partsN b.length : Int) := by omega
      have E2 := Lib.hid (e2.out (by omega))
      clear e1 e2
      go_wp2
      go_ret2
      unfold RAppTo
      rw [E2.out]
      exact ⟨rfl, HL1.out, HR1.out, HO.out.into (by simp)⟩

set_option maxHeartbeats 4000000 in
theorem rfresh_any (w : World) (B lp : Nat) (R : RefP) (L : LS) (D : DS) (K : Int) (a : Option Addr) (cap : Nat) (b : List UInt8) (h : RLogAt w lp R.q L) (hd : RefAt w B R (refOf D)) (hn : D.n = 2 * L.size) (hc : D.calm K) (hK : K < 100000) (hs : Src w a b.length b) (hl : partsN b.length ≤ 255) (hbl : b.length ≤ 100000) (hlp : lp ∉ R.own) (hal : 0 < b.length → ∀ x y, a = some ⟨x, y, none⟩ → x ≠ lp) (hh : L.half ≤ 1) (ht0 : 0 ≤ L.top) (ht1 : L.top ≤ 4294967295) :
    Calls Try.prog 17 #[.pointer (some ⟨lp, 0, none⟩), .slice a b.length cap] w (RFreshTo w B lp R (freshM L D b)) := by
  have hsm : D.n ≤ 256 := hd.small
  have e1 : Hid (partsN b.length ≤ L.size → L.top < 4294967295 → freshM L D b = (if (wrM D (otherM L * L.size) (secsB (L.top + 1) 0 b)).2 = 0 then { L with top := L.top + 1, gen := L.top + 1, half := otherM L, next := partsN b.length, seq := 1 } else { L with top := L.top + 1 }, (wrM D (otherM L * L.size) (secsB (L.top + 1) 0 b)).1, (wrM D (otherM L * L.size) (secsB (L.top + 1) 0 b)).2)) := Lib.hid (fun h1 h2 => by
    unfold freshM; rw [if_neg (by omega)])
  have e2 : Hid (¬ (partsN b.length ≤ L.size ∧ L.top < 4294967295) → freshM L D b = (L, D, 4)) := Lib.hid (fun hf => by unfold freshM; rw [if_pos (by omega)])
  have H := Lib.hid h
  have Hd := Lib.hid hd
  have Hs := Lib.hid hs
  have Hc := Lib.hid hc
  have hlw := IsBlk.lt h
  clear h hd hs hc
  go_enter Try.func17, Try.ntmps17
  go_wp2_with fail
  refine (rfits_any _ B R _ lp L.size L a cap b H.out Hd.out hn Hs.out hl hbl).mono ?_
  rintro e w1 ⟨rfl, hO1⟩
  have HL1 := Lib.hid (H.out.more hO1)
  have HR1 := Lib.hid (Hd.out.more hO1)
  have Hs1 := Lib.hid (Hs.out.more hO1)
  have HO1 := Lib.hid hO1
  have c1 := HL1.out.c1
  clear hO1
  by_cases hf : partsN b.length ≤ L.size
  · rw [decide_eq_true hf]
    by_cases ht : L.top < 4294967295
    · have hti : ¬ (4294967295 : Int) ≤ L.top := by omega
      have E1 := Lib.hid (e1.out hf ht)
      have c2 := HL1.out.c2
      have c3 := HL1.out.c3
      have z1 := HL1.out.fz 1
      have ho : Hid (otherM L = if L.gen = 0 then 0 else 1 - L.half) := Lib.hid rfl
      have ho1 : Hid (otherM L ≤ 1) := Lib.hid (by rw [ho.out]; split <;> omega)
      clear e1 e2
      go_upto_if 29 with fail
      go_cut [5] (fun s5 wx => s5 = .int .i64 (otherM L) ∧ wx = w1)
      case first =>
        by_cases hgz : L.gen = 0
        · have hgzb : (L.gen == 0) = true := by simpa using hgz
          have ho' := Lib.hid (ho.out.trans (if_pos hgz))
          clear hgz
          go_wp2_with fail
          go_meet
          exact ⟨by rw [ho'.out]; rfl, rfl⟩
        · have hgzb : (L.gen == 0) = false := by simpa using hgz
          have ho' := Lib.hid (ho.out.trans (if_neg hgz))
          clear hgz
          go_wp2_with fail
          go_meet
          exact ⟨by rw [ho'.out]; congr 1; omega, rfl⟩
      case rest =>
        obtain ⟨rfl, rfl⟩ := hcut
        have hot := ho1.out
        generalize otherM L = ot at *
        have hO2 : Only [lp] wc (wc.setCell ⟨lp, 1, none⟩ (.int .i64 (L.top + 1))) := (Only.refl [lp] wc).setCell (by simp) _
        have HL2 := Lib.hid (HL1.out.put1 (L.top + 1))
        have HR2 := Lib.hid (HR1.out.keep' hO2 (fun k hk => .inr (by simp at hk; subst hk; exact ⟨hlp, HL1.out.nb⟩)))
        have hsz2 := hO2.size
        have hm : mayB (L.top + 1) 0 = true := mayB_iff.2 ⟨by omega, by omega, by omega, by omega⟩
        have Hs2 := Lib.hid (Hs1.out.keep hO2 (fun hp x y e hm => hal hp x y e (by simpa using hm)))
        have HO2 := Lib.hid ((HO1.out.into (T := lp :: R.own) (by simp)).then hO2 (lp :: R.own) (fun i hi => .inl hi) (by simp))
        have HRO : Hid (∀ k ∈ R.own, k < (wc.setCell ⟨lp, 1, none⟩ (.int .i64 (L.top + 1))).heap.size) := Lib.hid HR2.out.owns
        go_wp2_with fail
        generalize wc.setCell ⟨lp, 1, none⟩ (.int .i64 (L.top + 1)) = w2 at *
        clear hO2 HL1 HR1 Hs1 HO1 c1 c2 c3 z1
        refine (refcut_any _ (L.top + 1) 0 a cap b Hs2.out hm hbl).mono ?_
        intro e w3 hcut
        obtain ⟨gl, c, rfl, hP3, hO3⟩ := hcut.shape hl rfl
        have HL3 := Lib.hid (HL2.out.more hO3)
        have HR3 := Lib.hid (HR2.out.more hO3)
        have HP3 := Lib.hid hP3
        have HO3 := Lib.hid (HO2.out.plus hO3)
        have f0 := HL3.out.c0
        clear hcut hP3 hO3 HL2 HR2 HO2 Hs2
        go_wp2_with fail
        refine (rsize_any _ B R _ HR3.out).mono ?_
        rintro e w' ⟨rfl, rfl⟩
        rw [show (refOf D).n = 2 * L.size from hn]
        have em : (ot : Int) * (L.size : Int) = ((ot * L.size : Nat) : Int) := by simp
        have hos : ot * L.size ≤ 1000 := by
          rcases Nat.le_one_iff_eq_zero_or_eq_one.1 hot with h0 | h0 <;> rw [h0] <;> omega
        generalize ot * L.size = xx at *
        have hw1 : IntKind.i64.wrap (xx : Int) = (xx : Int) := wrap_nat xx (by omega)
        go_wp2_with fail
        have HW := Lib.hid (rwr_parts _ B _ gl c lp R _ D K xx (L.top + 1) 0 b HL3.out HR3.out Hc.out hK hm hl HP3.out HRO.out hlp hos)
        clear em hw1
        refine HW.out.mono ?_
        clear HW
        rintro e w4 ⟨rfl, hR4, hO4⟩
        generalize wrM D xx (secsB (L.top + 1) 0 b) = RR at *
        obtain ⟨D', ec⟩ := RR
        simp only at E1 hR4
        have HL4 := Lib.hid (HL3.out.keep hO4 hlp)
        have HR4 := Lib.hid hR4
        have HO4 := Lib.hid (HO3.out.then hO4 (lp :: R.own) (fun i hi => .inl hi) (fun i hi => .inl (List.mem_cons_of_mem _ hi)))
        clear hR4 hO4 HL3 HR3 HP3 HO3 f0
        have g1 := HL4.out.c1
        have g2 := HL4.out.c2
        have g3 := HL4.out.c3
        have g4 := HL4.out.c4
        have g5 := HL4.out.c5
        have y2 := HL4.out.fz 2
        have y3 := HL4.out.fz 3
        have y4 := HL4.out.fz 4
        have y5 := HL4.out.fz 5
        simp only at g1 g2 g3 g4 g5
        by_cases hec : ec = 0
        · subst hec
          go_wp2
          go_ret
          have hL5 := (((HL4.out.put2 (L.top + 1)).put3 ot).put4 (partsN b.length)).put5 1
          have hO5 : Only [lp] w4 ((((w4.setCell ⟨lp, 2, none⟩ (.int .i64 (L.top + 1))).setCell ⟨lp, 3, none⟩ (.int .i64 (ot : Int))).setCell ⟨lp, 4, none⟩ (.int .i64 (partsN b.length : Int))).setCell ⟨lp, 5, none⟩ (.int .i64 1)) := ((((Only.refl [lp] w4).setCell (by simp) _).setCell (by simp) _).setCell (by simp) _).setCell (by simp) _
          have hR5 := HR4.out.keep' hO5 (fun k hk => .inr (by simp at hk; subst hk; exact ⟨hlp, HL4.out.nb⟩))
          unfold RFreshTo
          rw [E1.out]
          first | rw [if_pos rfl] | rw [if_pos trivial]
          exact ⟨rfl, hL5, hR5, HO4.out.then hO5 (lp :: R.own) (fun i hi => .inl hi) (by simp)⟩
        · have hecb : (ec != 0) = true := by simpa using hec
          have hne : Hid (¬ ec = 0) := Lib.hid hec
          clear hec
          go_wp2
          go_ret
          unfold RFreshTo
          rw [E1.out, if_neg hne.out]
          exact ⟨rfl, HL4.out, HR4.out, HO4.out⟩
    · have hti : (4294967295 : Int) ≤ L.top := by omega
      have E2 := Lib.hid (e2.out (by omega))
      clear e1 e2
      go_wp2
      go_ret
      unfold RFreshTo
      rw [E2.out]
      exact ⟨rfl, HL1.out, HR1.out, HO1.out.into (by simp)⟩
  · rw [decide_eq_false hf]
    have E2 := Lib.hid (e2.out (by omega))
    clear e1 e2
    go_wp2
    go_ret
    unfold RFreshTo
    rw [E2.out]
    exact ⟨rfl, HL1.out, HR1.out, HO1.out.into (by simp)⟩

end Go.Proofs.Ytijhllgogmmgfaa
