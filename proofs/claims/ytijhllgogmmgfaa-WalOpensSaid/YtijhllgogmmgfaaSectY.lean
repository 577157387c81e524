/-
  The reference's Same and Join, by contracts.
-/
import Derived.Test.YtijhllgogmmgfaaSectX
namespace Go.Proofs.Ytijhllgogmmgfaa
set_option linter.unusedVariables false
set_option maxRecDepth 100000
open Go.RowKit

/-- Are two Parts alike, as the reference asks it. -/
def sameP (p q : PartM) : Bool := decide (p.g = q.g) && decide (p.r = q.r) && decide (p.n = q.n) && decide (p.o = q.o) && decide (p.d = q.d)
theorem sameP_iff {p q : PartM} : sameP p q = true ↔ p = q := by
  constructor
  · intro h
    simp only [sameP, Bool.and_eq_true, decide_eq_true_eq] at h
    exact PartM.same h.1.1.1.1 h.1.1.1.2 h.1.1.2 h.1.2 h.2
  · rintro rfl; simp [sameP]

set_option maxHeartbeats 8000000 in
theorem refsame_any (w : World) (g r n o g' r' n' o' : Int) (a a' : Option Addr) (k k' cap cap' : Nat) (d d' : List UInt8) (h : Src w a k d) (h' : Src w a' k' d') :
    Calls Try.prog 65 #[.agg #[.int .i64 g, .int .i64 r, .int .i64 n, .int .i64 o, .slice a k cap], .agg #[.int .i64 g', .int .i64 r', .int .i64 n', .int .i64 o', .slice a' k' cap']] w fun e w' => e = .returned (.bool (sameP ⟨g, r, n, o, d⟩ ⟨g', r', n', o', d'⟩)) ∧ Only [] w w' := by
  have cv1 := fun x y => conv_src ((w.alloc x).alloc y) a k cap d (h.more (((Only.refl [] w).alloc x).alloc y))
  have cv2 := fun x y => conv_src ((w.alloc x).alloc y) a' k' cap' d' (h'.more (((Only.refl [] w).alloc x).alloc y))
  clear h h'
  by_cases h1 : g = g'
  · subst h1
    by_cases h2 : r = r'
    · subst h2
      by_cases h3 : n = n'
      · subst h3
        by_cases h4 : o = o'
        · subst h4
          go_enter Try.func65, Try.ntmps65
          go_wp2
          go_ret
          exact ⟨ret_bool (by rw [strB_beq]; simp [sameP]), ((Only.refl _ _).alloc _).alloc _⟩
        · have hb : (o == o') = false := by simpa using h4
          go_enter Try.func65, Try.ntmps65
          go_wp2
          go_ret
          exact ⟨ret_bool (by simp [sameP, h4]), ((Only.refl _ _).alloc _).alloc _⟩
      · have hb : (n == n') = false := by simpa using h3
        go_enter Try.func65, Try.ntmps65
        go_wp2
        go_ret
        exact ⟨ret_bool (by simp [sameP, h3]), ((Only.refl _ _).alloc _).alloc _⟩
    · have hb : (r == r') = false := by simpa using h2
      go_enter Try.func65, Try.ntmps65
      go_wp2
      go_ret
      exact ⟨ret_bool (by simp [sameP, h2]), ((Only.refl _ _).alloc _).alloc _⟩
  · have hb : (g == g') = false := by simpa using h1
    go_enter Try.func65, Try.ntmps65
    go_wp2
    go_ret
    exact ⟨ret_bool (by simp [sameP, h1]), ((Only.refl _ _).alloc _).alloc _⟩

/-- The worlds on the way through the test of two Parts that may be others. -/
def TwoC (w0 : World) (b o b' o' : Nat) (p q : PartM) (da : Option Addr) (dc : Nat) (ea : Option Addr) (ec : Nat) (W : World) : Prop :=
  (W.rangeAt b o (partC p.g p.r p.n p.o da p.d.length dc) ∧ W.rangeAt b' o' (partC q.g q.r q.n q.o ea q.d.length ec)) ∧ Only [] w0 W
theorem TwoC.more {w0 W W' : World} {b o b' o' : Nat} {p q : PartM} {da : Option Addr} {dc : Nat} {ea : Option Addr} {ec : Nat} (h : TwoC w0 b o b' o' p q da dc ea ec W) (hO : Only [] W W') (hb : b < W.heap.size) (hb' : b' < W.heap.size) : TwoC w0 b o b' o' p q da dc ea ec W' :=
  ⟨⟨rangeAt_only h.1.1 hO hb (by simp), rangeAt_only h.1.2 hO hb' (by simp)⟩, h.2.then hO [] (by simp) (by simp)⟩
theorem region_two {P : Program} {id : Nat} {Q : Exit → Act → World → Prop} {a : Act} {w w0 : World} {l : List Oper} {b o b' o' : Nat} {p q : PartM} {da : Option Addr} {dc : Nat} {ea : Option Addr} {ec : Nat} (hm : P.follows .mixedOrders = true) (hB : Region.lexB .any l.toArray = true) (hC : TwoC w0 b o b' o' p q da dc ea ec w.drew)
    (h : wpQuiet P l.toArray (TwoC w0 b o b' o' p q da dc ea ec) (fun a' => ∀ w', TwoC w0 b o b' o' p q da dc ea ec w' → Q .normal a' w') l a) : (Code.region id l.toArray true).wp P Q a w :=
  region_quiet_lit hm hB hC h

/-- What the reference's Join leaves. -/
def RefJoinTo (w : World) (x : Option (List UInt8)) (e : Ending) (w' : World) : Prop :=
  match x with
  | none => e = .returned (.tuple #[.slice none 0 0, .bool false]) ∧ Only [] w w'
  | some b => ∃ a c, e = .returned (.tuple #[.slice a b.length c, .bool true]) ∧ Src w' a b.length b ∧ (∀ x y, a = some ⟨x, y, none⟩ → w.heap.size ≤ x) ∧ Only [] w w'

theorem join_none_of {ps : List PartM} {p0 : PartM} (h0 : ps[0]? = some p0) (h : ∀ b, joinB ps = some b → False) : joinB ps = none := by
  cases hj : joinB ps with
  | none => rfl
  | some b => exact absurd hj (fun e => h b e)
theorem join_empty {ps : List PartM} (h : ps.length = 0 ∨ 255 < ps.length) : joinB ps = none := by
  rcases h with h | h
  · rw [List.eq_nil_of_length_eq_zero h]; exact join_none (fun h => by have := h.1; simp [oneRec] at this)
  · obtain ⟨p0, h0⟩ : ∃ p, ps[0]? = some p := ⟨_, List.getElem?_eq_getElem (by omega)⟩
    refine join_none_of h0 (fun b hb => ?_)
    obtain ⟨_, h2, h3, _⟩ := cut_join h0 hb
    have := congrArg List.length h3
    rw [length_cutP] at this
    omega
theorem join_len {ps : List PartM} {p : PartM} {i : Nat} (hi : ps[i]? = some p) (h : p.d.length ≠ 52) : joinB ps = none := by
  have hl := (List.getElem?_eq_some_iff.1 hi).1
  obtain ⟨p0, h0⟩ : ∃ p, ps[0]? = some p := ⟨_, List.getElem?_eq_getElem (by omega)⟩
  refine join_none_of h0 (fun b hb => ?_)
  obtain ⟨h1, h2, h3, _⟩ := cut_join h0 hb
  rw [h3] at hi
  obtain ⟨rfl, hk⟩ := cutP_get _ _ _ i p hi
  exact h (length_pieceB _ _ (by rw [length_wholeB]; omega))

theorem join_cutX {ps pw : List PartM} {p0 : PartM} {code : Nat} (h0 : ps[0]? = some p0) (hX : cutX p0.g p0.r (((flatP ps).drop 4).take (toldP ps)) = (pw, code)) (hj : joinB ps ≠ none) : code = 0 ∧ pw = ps := by
  cases hb : joinB ps with
  | none => exact absurd hb hj
  | some b =>
    have hfit : fitsP ps := by
      unfold joinB at hb
      split at hb
      · assumption
      · cases hb
    have e := join_some hfit
    rw [hb] at e
    injection e with e
    obtain ⟨h1, h2, h3, _⟩ := cut_join h0 hb
    rw [← e] at hX
    have : cutX p0.g p0.r b = (cutP p0.g p0.r b, 0) := by simp [cutX, h1, h2]
    rw [this] at hX
    injection hX with h4 h5
    exact ⟨h5.symm, by rw [← h4, ← h3]⟩
theorem join_of_cutX {ps : List PartM} {g r : Int} {b : List UInt8} (hX : cutX g r b = (ps, 0)) : joinB ps = some b := by
  obtain ⟨h1, h2, h3⟩ := cutX_zero hX
  rw [h3]; exact join_cut h1 h2

set_option maxRecDepth 100000 in
set_option maxHeartbeats 8000000 in
theorem refjoin_any (w : World) (a : Option Addr) (len cap : Nat) (ps : List PartM) (h : PartsAt w a len ps) :
    Calls Try.prog 56 #[.slice a len cap] w (RefJoinTo w (joinB ps)) := by
  have H := Lib.hid h
  have hl := Lib.hid h.1
  clear h
  by_cases hz : len = 0
  · subst hz
    have hno := Lib.hid (join_empty (ps := ps) (.inl hl.out))
    go_enter Try.func56, Try.ntmps56
    go_wp2
    go_ret2
    rw [hno.out]
    exact ⟨rfl, Only.refl _ _⟩
  have hzb : ((len : Int) == 0) = false := by simp; omega
  by_cases hbig : 255 < len
  · have hbi : (255 : Int) < (len : Int) := by omega
    have hno := Lib.hid (join_empty (ps := ps) (.inr (by rw [hl.out]; exact hbig)))
    go_enter Try.func56, Try.ntmps56
    go_wp2
    go_ret2
    rw [hno.out]
    exact ⟨rfl, Only.refl _ _⟩
  have hbi : ¬ (255 : Int) < (len : Int) := by omega
  go_enter Try.func56, Try.ntmps56
  go_wp2_with fail
  go_loopw [4, 5] (fun v i wr => ∃ k : Nat, k ≤ len ∧ i = .int .i64 k ∧ (∀ x q, x < k → ps[x]? = some q → q.d.length = 52) ∧ OwnB wr w.heap.size v (flatP (ps.take k)) ∧ Below w.heap.size w wr) (fun _ i _ => len - (intOf i).toNat)
  case atStart => exact ⟨0, Nat.zero_le _, rfl, fun x q hx => by omega, by simpa [flatP] using OwnB.nil w w.heap.size, Below.refl _ _⟩
  case round =>
    obtain ⟨k, hk, rfl, h52, hown, hbel⟩ := hrel
    have hsz := hbel.size
    have Hbel := Lib.hid hbel
    have H52 := Lib.hid h52
    by_cases hlt : k < len
    · have hlti : (k : Int) < (len : Int) := by omega
      have hkl : k < ps.length := by rw [hl.out]; exact hlt
      obtain ⟨b, o, rfl, hb, hps⟩ := (H.out.below hbel (Nat.le_refl _)).2 (by omega)
      obtain ⟨da, dc, hr, hs⟩ := hps k ps[k] (List.getElem?_eq_getElem hkl)
      have k4 : wr.cell? ⟨b, o + k * 5 + 4, none⟩ = some (.slice da (ps[k]).d.length dc) := hr 4 _ rfl
      by_cases h5 : (ps[k]).d.length = 52
      · have Hft := Lib.hid (flat_take ps k hkl)
        have hlk : (flatP (ps.take k)).length ≤ 100000 := by
          rw [length_flatP (fun p hp => by
            obtain ⟨x, hx⟩ := List.getElem?_of_mem hp
            have hxk : x < k := by have := (List.getElem?_eq_some_iff.1 hx).1; rw [List.length_take] at this; omega
            rw [List.getElem?_take, if_pos hxk] at hx
            exact h52 x p hxk hx), List.length_take]; omega
        have Hnext : Hid (∀ x q, x < k + 1 → ps[x]? = some q → q.d.length = 52) := Lib.hid (fun x q hx hq => by
          rcases Nat.lt_or_eq_of_le (Nat.le_of_lt_succ hx) with h | rfl
          · exact h52 x q h hq
          · rw [List.getElem?_eq_getElem hkl] at hq; injection hq with hq; rw [← hq]; exact h5)
        generalize ps[k] = p at *
        have Hown := Lib.hid hown
        have Hs := Lib.hid hs
        rw [h5] at k4
        have Hs52 : Hid (Src wr da 52 p.d) := Lib.hid (by have := hs; rwa [h5] at this)
        have hsm : Hid ((flatP (ps.take k)).length + 52 ≤ 100000000) := Lib.hid (by omega)
        clear hr hs hps hown hbel h52 hlk h5
        go_wp2_with (at_builtin; refine wpList_append_b rfl _ _ rfl w.heap.size _ _ rfl Hown.out da 52 dc p.d rfl Hs52.out hsm.out hsz ?_; intro v' w2 h2 h3 h4; clear h4)
        go_roundw
        case rel => exact ⟨k + 1, by omega, by go_num, Hnext.out, by rw [Hft.out]; exact h2, Hbel.out.trans h3⟩
        case measure => simp [intOf]; omega
      · have hno := Lib.hid (join_len (List.getElem?_eq_getElem hkl) h5)
        have hne : (((ps[k]).d.length : Int) != 52) = true := by simp; omega
        generalize (ps[k]).d.length = dl at *
        clear hr hs hps hown hbel h52 h5
        go_wp2
        go_ret2
        rw [hno.out]
        exact ⟨rfl, only_below Hbel.out⟩
    · have hge : ¬ (k : Int) < (len : Int) := by omega
      obtain rfl : k = len := by omega
      have hd : ∀ p ∈ ps, p.d.length = 52 := fun p hp => by
        obtain ⟨x, hx⟩ := List.getElem?_of_mem hp
        exact h52 x p (by have := (List.getElem?_eq_some_iff.1 hx).1; rw [hl.out] at this; exact this) hx
      have Hfl := Lib.hid (length_flatP hd)
      rw [List.take_of_length_le (by rw [hl.out]; exact Nat.le_refl _)] at hown
      obtain ⟨g, gcap, cur, rfl, hg, hblk, hcp, hr⟩ := hown.full (by rw [Hfl.out, hl.out]; omega)
      have hsw := rangeSrc hr hblk.lt
      rw [Hfl.out, hl.out] at hsw hcp
      rw [Hfl.out, hl.out]
      have hs4 := Lib.hid (hsw.sub 0 4 (by omega))
      have Hsw := Lib.hid hsw
      have htl : numB (((flatP ps).drop 0).take 4) = toldP ps := by rw [List.drop_zero]; rfl
      have htlt : toldP ps < 4294967296 := by
        have := numB_lt ((flatP ps).take 4)
        rw [List.length_take, Hfl.out, hl.out, Nat.min_eq_left (by omega)] at this
        simpa [toldP] using this
      have hci4 : (4 : Int) ≤ (gcap : Int) := by omega
      clear hown hbel hsw hblk hr h52 hd
      go_wp2_with fail
      refine (num_any _ _ _ _ _ hs4.out (by omega)).mono ?_
      rw [htl]
      rintro e w' ⟨rfl, rfl⟩
      clear htl hs4
      have hnof := Lib.hid (fun (hT : ¬ toldP ps ≤ ps.length * 52 - 4) => join_none (ps := ps) (fun h => hT h.2.1))
      have HB := Lib.hid (show ((flatP ps).drop 4).take (toldP ps) = ((flatP ps).drop 4).take (toldP ps) from rfl)
      have hBl : Hid (toldP ps ≤ k * 52 - 4 → (((flatP ps).drop 4).take (toldP ps)).length = toldP ps) := Lib.hid (fun hT => by rw [List.length_take, List.length_drop, Hfl.out, hl.out]; omega)
      by_cases hT : toldP ps ≤ k * 52 - 4
      · have hTi : ¬ ((k : Int) * 52 - 4 < (toldP ps : Int)) := by omega
        obtain ⟨p0, hp0⟩ : ∃ p, ps[0]? = some p := ⟨_, List.getElem?_eq_getElem (by rw [hl.out]; omega)⟩
        have HjX := Lib.hid (fun pw code => join_cutX (ps := ps) (pw := pw) (p0 := p0) (code := code) hp0)
        have hBlen := hBl.out hT
        have hsB := Hsw.out.sub 4 (toldP ps) (by omega)
        rw [Nat.zero_add] at hsB
        generalize hBB : ((flatP ps).drop 4).take (toldP ps) = B at *
        generalize toldP ps = T at *
        have hsB' : Src wr (some ⟨g, 4, none⟩) (4 + T - 4) B := by rw [Nat.add_sub_cancel_left]; exact hsB
        have hsB1 := fun ob => Lib.hid (hsB'.more ((Only.refl [] wr).alloc ob))
        have hg4 : ¬ gcap = 4 := by omega
        have hgT : (4 : Int) + T ≤ gcap := by omega
        have HBlen := Lib.hid hBlen
        have hBsm : B.length ≤ 100000 := by omega
        have HPw := Lib.hid (H.out.below Hbel.out (Nat.le_refl _))
        clear hBB hsB hsB' hBlen HB hBl hnof
        go_upto_region 14 with (at_builtin; refine wpList_append_b rfl _ _ rfl wr.heap.size _ [] rfl (OwnB.empty wr wr.heap.size (Nat.le_refl _)) (some ⟨g, 4, none⟩) (4 + T - 4) _ B rfl (hsB1 _).out (by simp; omega) (by simp) ?_; intro v5 w5 h5 hb5 hn5; rw [List.nil_append] at h5; obtain ⟨gb, cb, curb, rfl, hgb, hbkb, _, hrb⟩ := h5.notNil (fun e => by have := hn5 e; simp [Act.eval] at this); clear hn5)
        have hO5 : Only [] wr w5 := only_below (((Below.refl _ wr).alloc (Nat.le_refl _) _).trans hb5)
        have hsB5 := rangeSrc hrb hbkb.lt
        have hP5 := HPw.out.more hO5
        obtain ⟨b, o, rfl, hb, hps⟩ := hP5.2 (by omega)
        obtain ⟨da, dc, hr0, _⟩ := hps 0 p0 hp0
        have z0 : w5.cell? ⟨b, o, none⟩ = some (.int .i64 p0.g) := by have := hr0 0 _ rfl; simpa using this
        have z1 : w5.cell? ⟨b, o + 1, none⟩ = some (.int .i64 p0.r) := by have := hr0 1 _ rfl; simpa using this
        have hk0 : (0 : Int) < (k : Int) := by omega
        have hk0n : 0 < k := by omega
        have hk0m : ¬ k = 0 := by omega
        obtain ⟨pw, code, hX⟩ : ∃ pw code, cutX p0.g p0.r B = (pw, code) := ⟨_, _, rfl⟩
        have HX := Lib.hid hX
        have HK := Lib.hid (HjX.out pw code hX)
        have hpwl : pw.length ≤ 255 := cutX_len hX
        have HO5 := Lib.hid hO5
        have HO5f : Hid (Only [] w w5) := Lib.hid ((only_below Hbel.out).then hO5 [] (by simp) (by simp))
        have HP5 := Lib.hid hP5
        have HsB5 := Lib.hid hsB5
        clear hX hO5 hP5 hsB5 h5 hb5 hbkb hrb hps hr0 HjX hp0 hsB1 HPw
        generalize p0.g = g0 at *
        generalize p0.r = r0 at *
        go_region_held3 (fun W => W.cell? ⟨b, o, none⟩ = some (.int .i64 g0) ∧ W.cell? ⟨b, o + 1, none⟩ = some (.int .i64 r0))
          (first | assumption | exact two_keep hO6 hb z0 z1 | exact two_keep (Only.refl [] w5).drew hb z0 z1)
          (first
            | (go_at_call 23
               refine Calls.mono (refcut_gen _ g0 r0 _ _ B (HsB5.out.more (Only.refl [] w5).drew) hBsm) ?_
               rw [HX.out]
               rintro e w6 ⟨aw, cw, rfl, hpw6, hO56⟩
               have hO6 : Only [] w5 w6 := ((Only.refl [] w5).drew).then hO56 [] (by simp) (by simp)))
        rename_i hheld
        clear hheld z0 z1
        have hO06 : Only [] w w6 := (HO5f.out.then hO6 [] (by simp) (by simp))
        have HO06 := Lib.hid hO06
        have HP6 := Lib.hid (HP5.out.more hO6)
        have HPw6 := Lib.hid hpw6
        have HsB6 := Lib.hid (HsB5.out.more hO6)
        clear hO06 hpw6 hO6 hO56 HP5 HsB5
        by_cases hc0 : code = 0
        · by_cases hwl : pw.length = k
          · have hc0b : ((code : Int) != 0) = false := by simp; omega
            have hwlb : ((pw.length : Int) != (k : Int)) = false := by simp; omega
            go_wp2_with fail
            go_loopw [10] (fun i wx => ∃ j : Nat, j ≤ k ∧ i = .int .i64 j ∧ (∀ x, x < j → pw[x]? = ps[x]?) ∧ Only [] w6 wx) (fun i _ => k - (intOf i).toNat)
            case atStart => exact ⟨0, Nat.zero_le _, rfl, fun x hx => by omega, Only.refl _ _⟩
            case round =>
              obtain ⟨j, hj, rfl, hall, hOj⟩ := hrel
              have Hall := Lib.hid hall
              have HOj := Lib.hid hOj
              clear hall
              by_cases hltj : j < k
              · have hltji : (j : Int) < (k : Int) := by omega
                have hltji2 : (j : Int) < (pw.length : Int) := by omega
                obtain ⟨b4, o4, ha4, hb4, hps4⟩ := (HP6.out.more hOj).2 (by omega)
                injection ha4 with ha4
                injection ha4 with ha4 ha5
                subst ha4
                subst ha5
                obtain ⟨b6, o6, ha6, hb6, hps6⟩ := (HPw6.out.more hOj).2 (by omega)
                subst ha6
                have hjl : j < ps.length := by rw [hl.out]; exact hltj
                have hjw : j < pw.length := by omega
                obtain ⟨da, dc, hr4, hsd4⟩ := hps4 j ps[j] (List.getElem?_eq_getElem hjl)
                obtain ⟨ea, ec, hr6, hsd6⟩ := hps6 j pw[j] (List.getElem?_eq_getElem hjw)
                have hsame := Lib.hid (sameP_iff (p := ps[j]) (q := pw[j]))
                have hat : Hid (sameP ps[j] pw[j] = true → pw[j]? = ps[j]?) := Lib.hid (fun h => by rw [List.getElem?_eq_getElem hjl, List.getElem?_eq_getElem hjw, sameP_iff.1 h])
                have hnot : Hid (sameP ps[j] pw[j] = false → joinB ps = none) := Lib.hid (fun h => by
                  cases hjn : joinB ps with
                  | none => rfl
                  | some bb =>
                    have := (HK.out (by rw [hjn]; simp)).2
                    subst this
                    have : sameP pw[j] pw[j] = true := sameP_iff.2 rfl
                    rw [this] at h; cases h)
                generalize ps[j] = p at *
                generalize pw[j] = q at *
                obtain ⟨pg, pr, pn, po, pd⟩ := p
                obtain ⟨qg, qr, qn, qo, qd⟩ := q
                simp only at hr4 hr6 hsd4 hsd6
                have Hr4 := Lib.hid hr4
                have Hr6 := Lib.hid hr6
                have Hsd4 := Lib.hid hsd4
                have Hsd6 := Lib.hid hsd6
                clear hr4 hr6 hsd4 hsd6 hps4 hps6 hOj
                go_upto_region 20 with fail
                refine region_two (w0 := wr) (b := b) (o := o + j * 5) (b' := b6) (o' := o6 + j * 5) (p := ⟨pg, pr, pn, po, pd⟩) (q := ⟨qg, qr, qn, qo, qd⟩) (da := da) (dc := dc) (ea := ea) (ec := ec) (by kernel_rfl) (by kernel_rfl) ⟨⟨fun x v hv => Hr4.out x v hv, fun x v hv => Hr6.out x v hv⟩, (Only.refl [] wr).drew⟩ ?_
                iterate 10
                  (go_big_quiet_step (first
                     | (intro hW
                        go_at_call 65
                        refine (refsame_any _ pg pr pn po qg qr qn qo da ea pd.length qd.length dc ec pd qd (Hsd4.out.more hW.2) (Hsd6.out.more hW.2)).mono ?_
                        rintro e w'' ⟨rfl, hO2⟩
                        exact ⟨rfl, hW.more hO2 (Nat.lt_of_lt_of_le hb4 hW.2.size) (Nat.lt_of_lt_of_le hb6 hW.2.size)⟩)
                     | (intro hW
                        have q0 : World.cell? _ ⟨b, o + j * 5, none⟩ = some (.int .i64 pg) := hW.1.1 0 _ rfl
                        have q1 : World.cell? _ ⟨b, o + j * 5 + 1, none⟩ = some (.int .i64 pr) := hW.1.1 1 _ rfl
                        have q2 : World.cell? _ ⟨b, o + j * 5 + 2, none⟩ = some (.int .i64 pn) := hW.1.1 2 _ rfl
                        have q3 : World.cell? _ ⟨b, o + j * 5 + 3, none⟩ = some (.int .i64 po) := hW.1.1 3 _ rfl
                        have q4 : World.cell? _ ⟨b, o + j * 5 + 4, none⟩ = some (.slice da pd.length dc) := hW.1.1 4 _ rfl
                        have z0 : World.cell? _ ⟨b6, o6 + j * 5, none⟩ = some (.int .i64 qg) := hW.1.2 0 _ rfl
                        have z1 : World.cell? _ ⟨b6, o6 + j * 5 + 1, none⟩ = some (.int .i64 qr) := hW.1.2 1 _ rfl
                        have z2 : World.cell? _ ⟨b6, o6 + j * 5 + 2, none⟩ = some (.int .i64 qn) := hW.1.2 2 _ rfl
                        have z3 : World.cell? _ ⟨b6, o6 + j * 5 + 3, none⟩ = some (.int .i64 qo) := hW.1.2 3 _ rfl
                        have z4 : World.cell? _ ⟨b6, o6 + j * 5 + 4, none⟩ = some (.slice ea qd.length ec) := hW.1.2 4 _ rfl
                        go_simp
                        first | done | exact rfl | exact ⟨rfl, rfl⟩)))
                refine wpQuiet_nil ?_
                intro wq hwq
                have hOq := HOj.out.then hwq.2 [] (by simp) (by simp)
                have HOq := Lib.hid hOq
                clear hwq hOq
                cases hsm : sameP ⟨pg, pr, pn, po, pd⟩ ⟨qg, qr, qn, qo, qd⟩ with
                | true =>
                  have Hat := Lib.hid (hat.out hsm)
                  clear hsm
                  go_wp2
                  go_roundw
                  case rel => exact ⟨j + 1, by omega, by go_num, fun x hx => by rcases Nat.lt_or_eq_of_le (Nat.le_of_lt_succ hx) with h | rfl; exact Hall.out x h; exact Hat.out, HOq.out⟩
                  case measure => simp [intOf]; omega
                | false =>
                  have Hno := Lib.hid (hnot.out hsm)
                  clear hsm
                  go_wp2
                  go_ret2
                  rw [Hno.out]
                  exact ⟨rfl, HO06.out.then HOq.out [] (by simp) (by simp)⟩
              · have hgej : ¬ (j : Int) < (k : Int) := by omega
                obtain rfl : j = k := by omega
                have hpp : pw = ps := by
                  apply List.ext_getElem?
                  intro x
                  rcases Nat.lt_or_ge x j with h | h
                  · exact Hall.out x h
                  · rw [List.getElem?_eq_none (by omega), List.getElem?_eq_none (by rw [hl.out]; exact h)]
                have hyes : Hid (joinB ps = some B) := Lib.hid (by have := HX.out; rw [hpp, hc0] at this; exact join_of_cutX this)
                have HsBj := Lib.hid (HsB6.out.more hOj)
                clear hpp
                go_wp2
                go_ret2
                rw [hyes.out]
                exact ⟨_, _, rfl, HsBj.out, fun x y e => by injection e with e; injection e with e1 e2; omega, HO06.out.then hOj [] (by simp) (by simp)⟩
          · have hno : Hid (joinB ps = none) := Lib.hid (by
              cases hjn : joinB ps with
              | none => rfl
              | some bb => exact absurd (by rw [(HK.out (by rw [hjn]; simp)).2, hl.out]) hwl)
            have hc0b : ((code : Int) != 0) = false := by simp; omega
            have hwlb : ((pw.length : Int) != (k : Int)) = true := by simp; omega
            clear hwl
            go_wp2
            go_ret2
            rw [hno.out]
            exact ⟨rfl, HO06.out⟩
        · have hno : Hid (joinB ps = none) := Lib.hid (by
            cases hjn : joinB ps with
            | none => rfl
            | some bb => exact absurd (HK.out (by rw [hjn]; simp)).1 hc0)
          have hc0b : ((code : Int) != 0) = true := by simp; omega
          go_wp2
          go_ret2
          rw [hno.out]
          exact ⟨rfl, HO06.out⟩
      · have hTi : (k : Int) * 52 - 4 < (toldP ps : Int) := by omega
        have hno := Lib.hid (hnof.out (by rw [hl.out]; exact hT))
        generalize toldP ps = T at *
        go_wp2
        go_ret2
        rw [hno.out]
        exact ⟨rfl, only_below Hbel.out⟩

end Go.Proofs.Ytijhllgogmmgfaa
