/-
  A half's sectors as Parts; the function read of the package wal, by a contract.
-/
import Derived.Test.YtfampoblcielpaaGreatWalB
namespace Go.Proofs.YtfampoblcielpaaGreat
set_option linter.unusedVariables false
set_option maxRecDepth 100000
open Go.RowKit

def noPart : PartM := ⟨0, 0, 0, 0, []⟩
/-- The Part that a sector is; where it is none, one of generation 0. -/
def secP (b : List UInt8) : PartM := (parseB b).getD noPart
/-- The Parts of a half that begins at a sector. -/
def halfP (S : Secs) (at_ n : Nat) : List PartM := (List.range n).map fun i => secP (S (at_ + i))
/-- The greatest generation of Parts, and of what is given. -/
def topM (t : Int) (ps : List PartM) : Int := ps.foldl (fun t p => max t p.g) t

theorem halfP_succ (S : Secs) (at_ n : Nat) : halfP S at_ (n + 1) = halfP S at_ n ++ [secP (S (at_ + n))] := by simp [halfP, List.range_succ]
theorem length_halfP (S : Secs) (at_ n : Nat) : (halfP S at_ n).length = n := by simp [halfP]
theorem topM_snoc (t : Int) (ps : List PartM) (p : PartM) : topM t (ps ++ [p]) = max (topM t ps) p.g := by simp [topM]
theorem halfP_get {S : Secs} {at_ n i : Nat} {p : PartM} (h : (halfP S at_ n)[i]? = some p) : p = secP (S (at_ + i)) ∧ i < n := by
  unfold halfP at h
  rw [List.getElem?_map] at h
  by_cases hi : i < n
  · rw [List.getElem?_range hi] at h; simp at h; exact ⟨h.symm, hi⟩
  · rw [List.getElem?_eq_none (by simp; omega)] at h; cases h
theorem get_halfP {S : Secs} {at_ n i : Nat} (h : i < n) : (halfP S at_ n)[i]? = some (secP (S (at_ + i))) := by
  unfold halfP; rw [List.getElem?_map, List.getElem?_range h]; rfl

theorem parse_ok {l : List UInt8} {p : PartM} (h : parseB l = some p) : okB p = true ∧ bytesB p = l := by
  unfold parseB at h
  split at h
  · next hc => injection h with h; subst h; exact ⟨hc.2.1, hc.2.2⟩
  · cases h

theorem secP_sane (b : List UInt8) : 0 ≤ (secP b).o ∧ (secP b).o ≤ 255 ∧ 0 ≤ (secP b).g ∧ (secP b).g ≤ 4294967295 := by
  unfold secP
  cases h : parseB b with
  | none => simp [noPart]
  | some p => obtain ⟨⟨h1, h2, h3, h4⟩, h5, h6, h7, h8, h9⟩ := okB_iff.1 (parse_ok h).1; exact ⟨by simp; omega, by simp; omega, by simp; omega, by simp; omega⟩
theorem halfP_sane (S : Secs) (at_ n : Nat) : Sane (halfP S at_ n) := fun p hp => by
  simp only [halfP, List.mem_map] at hp
  obtain ⟨i, _, rfl⟩ := hp
  exact secP_sane _

theorem topM_bounds {t : Int} {ps : List PartM} (h : Sane ps) (h0 : 0 ≤ t) (h1 : t ≤ 4294967295) : 0 ≤ topM t ps ∧ topM t ps ≤ 4294967295 := by
  induction ps generalizing t with
  | nil => exact ⟨h0, h1⟩
  | cons p r ih =>
    have hp := h p (by simp)
    show 0 ≤ topM (max t p.g) r ∧ topM (max t p.g) r ≤ 4294967295
    exact ih (fun q hq => h q (by simp [hq])) (by omega) (by omega)

/-- What Parse answers, in one way. -/
def ParsedTo (w : World) (p : PartM) (e : Ending) (w' : World) : Prop :=
  ∃ a cap x, e = .returned (.tuple #[.agg #[.int .i64 p.g, .int .i64 p.r, .int .i64 p.n, .int .i64 p.o, .slice a p.d.length cap], .bool x]) ∧ Src w' a p.d.length p.d ∧
    (∀ b o, a = some ⟨b, o, none⟩ → w.heap.size ≤ b ∧ b < w'.heap.size) ∧ Only [] w w'

theorem parse_sec (w : World) (b cap : Nat) (hcap : 64 ≤ cap) (l : List UInt8) (hs : Src w (some ⟨b, 0, none⟩) 64 l) :
    Calls Tryz.prog 47 #[.slice (some ⟨b, 0, none⟩) 64 cap] w (ParsedTo w (secP l)) := by
  refine (parse_any w b 0 cap hcap l hs).mono ?_
  unfold secP
  cases h : parseB l with
  | none =>
    rintro e w' ⟨rfl, hO⟩
    exact ⟨none, 0, false, rfl, ⟨rfl, fun h => by simp [noPart] at h⟩, fun _ _ e => (by cases e), hO⟩
  | some p =>
    rintro e w' ⟨gd, rfl, hb, hd, hge, hO⟩
    refine ⟨some ⟨gd, 0, none⟩, 52, true, by simp [hd], ?_, fun b o e => by injection e with e; injection e with e1 e2; subst e1; exact ⟨hge, hb.lt⟩, hO⟩
    have := src_blk hb 0 52 (by omega)
    rw [List.drop_zero, List.take_of_length_le (by omega)] at this
    simpa [hd] using this

/-- A Part in a row whose bytes lie in newer memory. -/
def PartN (w : World) (gl o : Nat) (p : PartM) : Prop :=
  ∃ a cap, w.rangeAt gl o (partC p.g p.r p.n p.o a p.d.length cap) ∧ Src w a p.d.length p.d ∧ ∀ b o', a = some ⟨b, o', none⟩ → gl < b ∧ b < w.heap.size

theorem PartN.keep {S : List Nat} {w w' : World} {gl o : Nat} {p : PartM} (h : PartN w gl o p) (hO : Only S w w') (hg : gl < w.heap.size) (hS : ∀ k ∈ S, k < gl) : PartN w' gl o p := by
  obtain ⟨a, cap, hr, hs, hb⟩ := h
  refine ⟨a, cap, rangeAt_only hr hO hg (fun hm => by have := hS gl hm; omega), hs.keep hO (fun _ b o e hm => by have := hS b hm; have := hb b o e; omega), fun b o' e => ⟨(hb b o' e).1, Nat.lt_of_lt_of_le (hb b o' e).2 hO.size⟩⟩

theorem PartN.put {w : World} {gl o : Nat} {p : PartM} (h : PartN w gl o p) (o' : Nat) (vs : List Value) (ho : o + 5 ≤ o') : PartN (w.setCells gl o' vs) gl o p := by
  obtain ⟨a, cap, hr, hs, hb⟩ := h
  refine ⟨a, cap, World.rangeAt_setCells_apart hr _ _ _ (.inr (.inl (by simp [partC]; omega))), hs.keep ((Only.refl [gl] w).setCells gl o' vs (by simp)) (fun _ b o e hm => by have := hb b o e; simp at hm; omega), fun b o' e => by rw [size_setCells]; exact hb b o' e⟩

/-- What read answers. -/
def ReadTo (w : World) (lp pd bl bm : Nat) (L : LS) (D : DS) (at_ : Nat) (e : Ending) (w' : World) : Prop :=
  ∃ gl, e = .returned (.tuple #[.slice (some ⟨gl, 0, none⟩) L.size L.size, .int .i64 0]) ∧ PartsAt w' (some ⟨gl, 0, none⟩) L.size (halfP D.now at_ L.size) ∧
    LogAt w' lp pd { L with top := topM L.top (halfP D.now at_ L.size) } ∧ DiskAt w' pd bl bm D ∧ w.heap.size ≤ gl ∧ gl < w'.heap.size ∧ (∀ i, i < L.size → PartN w' gl (i * 5) (secP (D.now (at_ + i)))) ∧ Only [lp] w w'

theorem now_len {w : World} {p bl bm : Nat} {D : DS} (h : DiskAt w p bl bm D) (x : Nat) (hx : x < D.n) : (D.now x).length = 64 := by
  unfold DS.now
  cases hf : D.fresh x with
  | none => exact h.lens x hx
  | some b => exact h.flen x b hf

set_option maxHeartbeats 4000000 in
theorem read_half (w : World) (lp pd bl bm : Nat) (L : LS) (D : DS) (half : Nat) (h : LogAt w lp pd L) (hd : DiskAt w pd bl bm D) (hdead : D.dead = false) (hh : half ≤ 1) (hsz : half * L.size + L.size ≤ D.n)
    (h1 : lp ≠ pd) (h2 : lp ≠ bl) (h3 : lp ≠ bm) (ht0 : 0 ≤ L.top) (ht1 : L.top ≤ 4294967295) :
    Calls Tryz.prog 30 #[.pointer (some ⟨lp, 0, none⟩), .int .i64 half] w (ReadTo w lp pd bl bm L D (half * L.size)) := by
  have hsm := hd.small
  have hlp := IsBlk.lt h
  obtain ⟨C, hC, hmk⟩ := make_parts w L.size (by omega)
  have c1 := h.c1
  have HC := Lib.hid hC
  have H := Lib.hid h
  have Hd := Lib.hid hd
  clear hC h hd
  go_enter Tryz.func30, Tryz.ntmps30
  go_wp2_with fail
  generalize hgl : w.heap.size = gl at *
  go_loopw [17] (fun i wr => ∃ j : Nat, j ≤ L.size ∧ i = .int .i64 j ∧ (∀ x, x < j → PartN wr gl (x * 5) (secP (D.now (half * L.size + x)))) ∧ wr.there gl 0 (L.size * 5) ∧
      LogAt wr lp pd { L with top := topM L.top (halfP D.now (half * L.size) j) } ∧ DiskAt wr pd bl bm D ∧ gl < wr.heap.size ∧ Only [lp] w wr) (fun i _ => L.size - (intOf i).toNat)
  case atStart =>
    have hO : Only [lp] w (w.alloc (.cells C 102)) := (Only.refl [lp] w).alloc _
    refine ⟨0, Nat.zero_le _, rfl, fun x hx => by omega, ?_, H.out.more ((Only.refl [] w).alloc _), Hd.out.more ((Only.refl [] w).alloc _), by simp [hgl], hO⟩
    have := IsBlk.made w (.cells C 102)
    rw [hgl] at this
    exact there_blk this 0 _ (by rw [HC.out]; omega)
  case round =>
    obtain ⟨j, hj, rfl, hps, hth, hL, hD, hgl2, hO⟩ := hrel
    have Hps := Lib.hid hps
    have Hth := Lib.hid hth
    have HL := Lib.hid hL
    have HD := Lib.hid hD
    have HO := Lib.hid hO
    clear hps hth hL hD hO
    by_cases hlt : j < L.size
    · have hlti : (j : Int) < (L.size : Int) := by omega
      have d0 := HL.out.c0
      have d1 := HL.out.c1
      simp only at d1
      have em : (half : Int) * (L.size : Int) = ((half * L.size : Nat) : Int) := by simp
      have hnat : half * L.size + j < D.n := by omega
      generalize hat : half * L.size = at_ at *
      have hw1 : IntKind.i64.wrap (at_ : Int) = (at_ : Int) := wrap_nat at_ (by omega)
      obtain ⟨x, hx⟩ : ∃ x, x = at_ + j := ⟨_, rfl⟩
      have hw2 : IntKind.i64.wrap ((at_ : Int) + (j : Int)) = (x : Int) := by rw [hx]; exact wrap_nat (at_ + j) (by omega)
      rw [← hx] at hnat
      have Hx := Lib.hid hx
      clear hx
      go_wp2_with fail
      go_upto_region 6 with fail
      go_cut [8, 9] (fun s8 s9 wx => ∃ gb, s8 = .slice (some ⟨gb, 0, none⟩) 64 64 ∧ s9 = .int .i64 0 ∧ IsBlk wx gb (.cells (bv (D.now x)).toArray 5) ∧ Only [] wr wx)
      case first =>
        go_region_held3 (fun W => W.cell? ⟨lp, 0, none⟩ = some (.pointer (some ⟨pd, 0, none⟩)) ∧ W.cell? ⟨lp, 1, none⟩ = some (.int .i64 L.size)) (first | exact ⟨d0, d1⟩ | assumption)
          (first
            | (go_at_call 46
               refine (read_ok _ pd bl bm D x (HD.out.more (Only.refl [] wr).drew) hdead hnat).mono ?_
               rintro e w1 ⟨gb, rfl, hb1, hg1, hO1⟩
               have hO1' := ((Only.refl [] wr).drew).plus hO1
               have hS1 : w1.cell? ⟨lp, 0, none⟩ = some (.pointer (some ⟨pd, 0, none⟩)) ∧ w1.cell? ⟨lp, 1, none⟩ = some (.int .i64 L.size) := ⟨(HL.out.more hO1').c0, (HL.out.more hO1').c1⟩))
        all_goals
          go_wp2_with fail
          go_meet
          exact ⟨gb, rfl, rfl, by assumption, by assumption⟩
      case rest =>
        obtain ⟨gb, rfl, rfl, hb1, hO1⟩ := hcut
        have hs1 : Src wc (some ⟨gb, 0, none⟩) 64 (D.now x) := by
          have hl := now_len HD.out x hnat
          have := src_blk hb1 0 64 (by omega)
          rwa [List.drop_zero, List.take_of_length_le (by omega)] at this
        have Hs1 := Lib.hid hs1
        have HO1 := Lib.hid hO1
        clear hs1 hO1 hb1 d0 d1
        go_wp2_with fail
        refine (parse_sec _ gb 64 (by omega) _ Hs1.out).mono ?_
        rintro e w2 ⟨da, dc, dx, rfl, hs2, hda, hO2⟩
        have hO3 : Only [] wr w2 := HO1.out.plus hO2
        have hth2 := there_only Hth.out hO3 hgl2 (by simp)
        have hthj : w2.there gl (j * 5) 5 := fun x hx => by have := hth2 (j * 5 + x) (by omega); simpa using this
        have hps2 : ∀ x, x < j → PartN w2 gl (x * 5) (secP (D.now (at_ + x))) := fun x hx => (Hps.out x hx).keep hO3 hgl2 (by simp)
        have hL2 := HL.out.more hO3
        have hD2 := HD.out.more hO3
        have hsz2 := hO2.size
        have hszc := HO1.out.size
        have hsane := secP_sane (D.now x)
        have Hth2 := Lib.hid hth2
        have Hthj := Lib.hid hthj
        have Hps2 := Lib.hid hps2
        have HL2 := Lib.hid hL2
        have HD2 := Lib.hid hD2
        have Hs2 := Lib.hid hs2
        have Hda := Lib.hid hda
        have HOw := Lib.hid (HO.out.plus hO3)
        clear hO2 hO3 hth2 hthj hps2 hL2 hD2 hs2 hda HO1 Hs1 Hps Hth HL HD
        have HP : Hid (secP (D.now x) = secP (D.now (at_ + j))) := Lib.hid (by rw [Hx.out])
        generalize hp : secP (D.now x) = p at *
        clear hp
        obtain ⟨pg, pr, pn, po, pd_⟩ := p
        simp only at hsane
        go_wp2_with (refine wpList_store_part rfl _ sizePart _ _ rfl gl (j * 5) pg pr pn po da pd_.length dc rfl rfl Hthj.out ?_; intro w3 Hw3)
        have hO3 : Only [gl] w2 w3 := by rw [Hw3.out]; exact (Only.refl [gl] w2).setCells gl _ _ (by simp)
        have hL3 := HL2.out.keep hO3 (by simp; omega)
        have hD3 := HD2.out.keep hO3 (by have := Hd.out.plt; simp; omega) (by have := Hd.out.blt; simp; omega) (by have := Hd.out.mlt; simp; omega)
        have hps3 : ∀ x, x < j → PartN w3 gl (x * 5) (secP (D.now (at_ + x))) := fun x hx => by rw [Hw3.out]; exact (Hps2.out x hx).put _ _ (by omega)
        have hth3 : w3.there gl 0 (L.size * 5) := by rw [Hw3.out]; exact World.there_setCells Hth2.out _ _ _
        have hrj : w3.rangeAt gl (j * 5) (partC pg pr pn po da pd_.length dc) := by rw [Hw3.out]; exact World.rangeAt_setCells_same w2 gl (j * 5) _ Hthj.out
        have hpj : PartN w3 gl (j * 5) ⟨pg, pr, pn, po, pd_⟩ := ⟨da, dc, hrj, Hs2.out.keep hO3 (fun _ b o e hm => by have := Hda.out b o e; simp at hm; omega), fun b o e => by have := Hda.out b o e; have := hO3.size; omega⟩
        have hOw3 : Only [lp] w w3 := HOw.out.then hO3 [lp] (by simp) (by simp; omega)
        have hsz3 := hO3.size
        have HPj := Lib.hid hpj
        have Hps3 := Lib.hid hps3
        have Hth3 := Lib.hid hth3
        have HD3 := Lib.hid hD3
        have HL3 := Lib.hid hL3
        have HOw3 := Lib.hid hOw3
        have hg0 : w3.cell? ⟨gl, j * 5, none⟩ = some (.int .i64 pg) := hrj 0 _ rfl
        have e2 := hL3.c2
        simp only at e2
        have ef := hL3.fz 2
        clear hO3 hL3 hD3 hps3 hth3 hrj hpj hOw3 HL2 HD2 Hps2 Hth2 Hthj Hs2 Hda HOw Hw3
        have hT : Hid (topM L.top (halfP D.now at_ (j + 1)) = max (topM L.top (halfP D.now at_ j)) pg) := Lib.hid (by rw [halfP_succ, topM_snoc, ← HP.out])
        obtain ⟨hT0, hT1⟩ := topM_bounds (halfP_sane D.now at_ j) ht0 ht1
        generalize topM L.top (halfP D.now at_ j) = T at *
        simp only [Act.put]
        refine still_tail 13 (by kernel_rfl) (by kernel_rfl) ?_
        simp only [List.take_succ_cons, List.take_zero, List.drop_succ_cons, List.drop_zero]
        have HL4 := Lib.hid (HL3.out.more (Only.refl [] w3).drew)
        have HD4 := Lib.hid (HD3.out.more (Only.refl [] w3).drew)
        have HPj4 := Lib.hid (HPj.out.keep (Only.refl [] w3).drew (by omega) (by simp))
        have Hps4 : Hid (∀ x, x < j → PartN w3.drew gl (x * 5) (secP (D.now (at_ + x)))) := Lib.hid (fun x hx => (Hps3.out x hx).keep (Only.refl [] w3).drew (by omega) (by simp))
        have Hth4 := Lib.hid (there_only Hth3.out (Only.refl [] w3).drew (by omega) (by simp))
        have HO4 := Lib.hid (HOw3.out.plus (Only.refl [] w3).drew)
        have hg0' : w3.drew.cell? ⟨gl, j * 5, none⟩ = some (.int .i64 pg) := hg0
        have e2' : w3.drew.cell? ⟨lp, 2, none⟩ = some (.int .i64 T) := e2
        have ef' : w3.drew.frozen? ⟨lp, 2, none⟩ = false := ef
        have hsz4 : w3.drew.heap.size = w3.heap.size := rfl
        clear hg0 e2 ef HL3 HD3 HPj Hps3 Hth3 HOw3
        generalize w3.drew = w4 at *
        iterate 13 still_step
        refine wpStill_nil ?_
        go_wp2
        go_roundw
        case rel =>
          have hO5 : Only [lp] w4 (w4.setCell ⟨lp, 2, none⟩ (.int .i64 (if T < pg then pg else T))) := only_put w4 _
          have hmx : topM L.top (halfP D.now at_ (j + 1)) = if T < pg then pg else T := by rw [hT.out]; split <;> omega
          refine ⟨j + 1, by omega, by go_num, fun x hx => ?_, there_only Hth4.out hO5 (by omega) (by simp; omega), ?_, HD4.out.keep hO5 (by simpa using Ne.symm h1) (by simpa using Ne.symm h2) (by simpa using Ne.symm h3), by simp; omega, HO4.out.same hO5⟩
          · by_cases hxj : x = j
            · subst hxj; rw [← HP.out]; exact HPj4.out.keep hO5 (by omega) (by simp; omega)
            · exact (Hps4.out x (by omega)).keep hO5 (by omega) (by simp; omega)
          · rw [hmx]; exact HL4.out.put2 _
        case measure => simp [intOf]; omega
    · have hge : ¬ (j : Int) < (L.size : Int) := by omega
      obtain rfl : j = L.size := by omega
      go_wp2
      go_ret2
      refine ⟨gl, rfl, ⟨length_halfP _ _ _, fun _ => ⟨gl, 0, rfl, hgl2, fun i p hip => ?_⟩⟩, HL.out, HD.out, by omega, hgl2, Hps.out, HO.out⟩
      obtain ⟨rfl, hil⟩ := halfP_get hip
      obtain ⟨a, c, hr, hs, -⟩ := Hps.out i hil
      exact ⟨a, c, by rw [Nat.zero_add]; exact hr, hs⟩

end Go.Proofs.YtfampoblcielpaaGreat
