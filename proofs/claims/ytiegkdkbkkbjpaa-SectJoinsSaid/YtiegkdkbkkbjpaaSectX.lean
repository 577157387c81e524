/-
  The walk of the law SectCuts.
-/
import Derived.Test.YtiegkdkbkkbjpaaSectU
import Derived.Test.YtiegkdkbkkbjpaaSectW
import Derived.Test.YtiegkdkbkkbjpaaSectS
namespace Go.Proofs.Ytiegkdkbkkbjpaa
open Go.RowKit

/-- What Cut answers: the Parts, or none, and the number. -/
def cutX (g r : Int) (b : List UInt8) : List PartM × Nat := if mayB g r = true then (if partsN b.length ≤ 255 then (cutP g r b, 0) else ([], 2)) else ([], 1)
theorem cutX_len {g r : Int} {b : List UInt8} {ps : List PartM} {code : Nat} (h : cutX g r b = (ps, code)) : ps.length ≤ 255 := by
  unfold cutX at h
  split at h
  · split at h
    · injection h with h1 h2; rw [← h1, length_cutP]; assumption
    · injection h with h1 h2; rw [← h1]; simp
  · injection h with h1 h2; rw [← h1]; simp
theorem cutX_zero {g r : Int} {b : List UInt8} {ps : List PartM} (h : cutX g r b = (ps, 0)) : mayB g r = true ∧ partsN b.length ≤ 255 ∧ ps = cutP g r b := by
  unfold cutX at h
  split at h
  · split at h
    · injection h with h1 h2; exact ⟨by assumption, by assumption, h1.symm⟩
    · injection h with h1 h2; cases h2
  · injection h with h1 h2; cases h2
def CutG (w : World) (ps : List PartM) (code : Nat) (e : Ending) (w' : World) : Prop :=
  ∃ a c, e = .returned (.tuple #[.slice a ps.length c, .int .i64 code]) ∧ PartsAt w' a ps.length ps ∧ Only [] w w'
theorem cut_gen (w : World) (g r : Int) (a : Option Addr) (cap : Nat) (b : List UInt8) (hs : Src w a b.length b) (hl : b.length ≤ 100000) :
    Calls Try.prog 22 #[.int .i64 g, .int .i64 r, .slice a b.length cap] w (CutG w (cutX g r b).1 (cutX g r b).2) := by
  cases hm : mayB g r with
  | false =>
    have e : cutX g r b = ([], 1) := by simp [cutX, hm]
    rw [e]
    exact (cut_bad w g r a b.length cap hm).mono fun e w' ⟨h1, h2⟩ => ⟨none, 0, h1, ⟨rfl, fun h => by simp at h⟩, by rw [h2]; exact Only.refl _ _⟩
  | true =>
    by_cases hp : partsN b.length ≤ 255
    · have e : cutX g r b = (cutP g r b, 0) := by simp [cutX, hm, hp]
      rw [e]
      refine (cut_ok w g r a cap b hs hm hp).mono fun e w' ⟨gl, gw, h1, h2, h3, h4, h5, h6, h7⟩ => ?_
      have hC : CutAt w' gl gw g r b (partsN b.length) := ⟨h2, h3, h6, rfl⟩
      exact ⟨some ⟨gl, 0, none⟩, partsN b.length, by rw [h1, length_cutP]; rfl, by rw [length_cutP]; exact hC.parts, h7⟩
    · have e : cutX g r b = ([], 2) := by simp [cutX, hm, hp]
      rw [e]
      exact (cut_long w g r a b.length cap hm (by omega) (by omega)).mono fun e w' ⟨h1, h2⟩ => ⟨none, 0, h1, ⟨rfl, fun h => by simp at h⟩, by rw [h2]; exact Only.refl _ _⟩
theorem refcut_gen (w : World) (g r : Int) (a : Option Addr) (cap : Nat) (b : List UInt8) (hs : Src w a b.length b) (hl : b.length ≤ 100000) :
    Calls Try.prog 23 #[.int .i64 g, .int .i64 r, .slice a b.length cap] w (CutG w (cutX g r b).1 (cutX g r b).2) := by
  cases hm : mayB g r with
  | false =>
    have e : cutX g r b = ([], 1) := by simp [cutX, hm]
    rw [e]
    exact (refcut_bad w g r a b.length cap hm).mono fun e w' ⟨h1, h2⟩ => ⟨none, 0, h1, ⟨rfl, fun h => by simp at h⟩, h2⟩
  | true =>
    by_cases hp : partsN b.length ≤ 255
    · have e : cutX g r b = (cutP g r b, 0) := by simp [cutX, hm, hp]
      rw [e]
      refine (refcut_any w g r a cap b hs hm hl).mono fun e w' ⟨h1, h2, h3⟩ => ?_
      obtain ⟨v, hv, hrow⟩ := h1 hp
      obtain ⟨a', c', rfl, hp'⟩ := hrow.parts
      exact ⟨a', c', hv, hp', h3⟩
    · have e : cutX g r b = ([], 2) := by simp [cutX, hm, hp]
      rw [e]
      exact (refcut_any w g r a cap b hs hm hl).mono fun e w' ⟨h1, h2, h3⟩ => ⟨none, 0, h2 (by omega), ⟨rfl, fun h => by simp at h⟩, h3⟩

/-- The worlds on the way through the test of two Parts. -/
def TenC (w0 : World) (b o b' o' : Nat) (p : PartM) (da : Option Addr) (dc : Nat) (ea : Option Addr) (ec : Nat) (W : World) : Prop :=
  (W.rangeAt b o (partC p.g p.r p.n p.o da p.d.length dc) ∧ W.rangeAt b' o' (partC p.g p.r p.n p.o ea p.d.length ec)) ∧ Only [] w0 W
theorem TenC.more {w0 W W' : World} {b o b' o' : Nat} {p : PartM} {da : Option Addr} {dc : Nat} {ea : Option Addr} {ec : Nat} (h : TenC w0 b o b' o' p da dc ea ec W) (hO : Only [] W W') (hb : b < W.heap.size) (hb' : b' < W.heap.size) : TenC w0 b o b' o' p da dc ea ec W' :=
  ⟨⟨rangeAt_only h.1.1 hO hb (by simp), rangeAt_only h.1.2 hO hb' (by simp)⟩, h.2.then hO [] (by simp) (by simp)⟩
theorem region_ten {P : Program} {id : Nat} {Q : Exit → Act → World → Prop} {a : Act} {w w0 : World} {l : List Oper} {b o b' o' : Nat} {p : PartM} {da : Option Addr} {dc : Nat} {ea : Option Addr} {ec : Nat} (hm : P.follows .mixedOrders = true) (hB : Region.lexB .any l.toArray = true) (hC : TenC w0 b o b' o' p da dc ea ec w.drew)
    (h : wpQuiet P l.toArray (TenC w0 b o b' o' p da dc ea ec) (fun a' => ∀ w', TenC w0 b o b' o' p da dc ea ec w' → Q .normal a' w') l a) : (Code.region id l.toArray true).wp P Q a w :=
  region_quiet_lit hm hB hC h

set_option maxRecDepth 100000 in
set_option maxHeartbeats 8000000 in
theorem cuts_walk (gen rec' : Int) (a : Option Addr) (len cap : Nat) (l : List UInt8) (size raw : Int) (w : World) (h : Src w a len l) :
    Calls Try.prog 6 #[.int .i64 gen, .int .i64 rec', .slice a len cap, .int .i64 size, .int .i64 raw] w fun e w' => e = .returned (.bool true) ∧ Only [] w w' := by
  have hlen := h.1
  subst hlen
  by_cases hl : l.length > 500
  · have hli : (500 : Int) < (l.length : Int) := by omega
    go_enter Try.func6, Try.ntmps6
    go_wp2_with fail
    refine (known_any _).mono ?_
    rintro e w1 ⟨rfl, hO⟩
    go_wp2
    go_ret
    exact ⟨rfl, hO⟩
  have hli : ¬ (500 : Int) < (l.length : Int) := by omega
  have hi0 := Int.emod_nonneg size (show (6 : Int) ≠ 0 by omega)
  have hi1 := Int.emod_lt_of_pos size (show (0 : Int) < 6 by omega)
  have hj0 := Int.emod_nonneg rec' (show (65538 : Int) ≠ 0 by omega)
  have hj1 := Int.emod_lt_of_pos rec' (show (0 : Int) < 65538 by omega)
  have hk0 := Int.emod_nonneg gen (show (4294967295 : Int) ≠ 0 by omega)
  have hk1 := Int.emod_lt_of_pos gen (show (0 : Int) < 4294967295 by omega)
  have H := Lib.hid h
  clear h
  go_enter Try.func6, Try.ntmps6
  go_wp2_with fail
  refine (known_any _).mono ?_
  rintro e w1 ⟨rfl, hO1⟩
  have hs1 := fun ob => Lib.hid (H.out.more (hO1.alloc ob))
  have HO1 := Lib.hid hO1
  have hsz1 := hO1.size
  clear hO1
  go_upto_region 5 with fail
  go_cut [11] (fun s11 wx => ∃ C : List UInt8, C.length ≤ 13757 ∧ OwnB wx w1.heap.size s11 C ∧ s11 ≠ .slice none 0 0 ∧ Below w1.heap.size w1 wx)
  case first =>
    go_wp2_with (at_builtin; refine wpList_append_b rfl (.tmp 26) (.tmp 27) rfl w1.heap.size _ [] rfl (OwnB.empty w1 w1.heap.size (Nat.le_refl _)) a l.length cap l rfl (hs1 _).out (by simp; omega) (by simp) ?_; intro v2 w2 h2 hb2 h2n; obtain ⟨g, xcap, cur, rfl, hg, _, hcp, _⟩ := h2.notNil (fun e => by have := h2n e; simp [Act.eval] at this); clear h2n)
    refine (within_any _ size 6 (by omega) (by omega)).mono ?_
    rintro e w' ⟨rfl, rfl⟩
    generalize size % 6 = t at *
    rw [List.nil_append] at h2
    have hbel2 := ((Below.refl _ w1).alloc (Nat.le_refl _) (.cells #[] 5)).trans hb2
    have hsz2 := hbel2.size
    have H2 := fun ob => Lib.hid (h2.alloc ob)
    have Hbel2 := fun ob => Lib.hid (hbel2.alloc hsz2 ob)
    clear h2 hb2 hbel2
    obtain rfl | rfl | rfl | rfl | rfl | rfl : t = 0 ∨ t = 1 ∨ t = 2 ∨ t = 3 ∨ t = 4 ∨ t = 5 := by omega
    · go_wp2_with (at_builtin; refine wpList_append_z rfl (.tmp 28) (.tmp 33) rfl w1.heap.size g xcap l rfl (H2 _).out 0 rfl (by omega) (Nat.le_trans hsz2 (by simp)) ?_; intro v3 w3 h3 hb3 h3n)
      go_meet
      exact ⟨_, by simp; omega, h3, h3n, (Hbel2 _).out.trans hb3⟩
    · go_wp2_with (at_builtin; refine wpList_append_z rfl (.tmp 28) (.tmp 33) rfl w1.heap.size g xcap l rfl (H2 _).out 48 rfl (by omega) (Nat.le_trans hsz2 (by simp)) ?_; intro v3 w3 h3 hb3 h3n)
      go_meet
      exact ⟨_, by simp; omega, h3, h3n, (Hbel2 _).out.trans hb3⟩
    · go_wp2_with (at_builtin; refine wpList_append_z rfl (.tmp 28) (.tmp 33) rfl w1.heap.size g xcap l rfl (H2 _).out 100 rfl (by omega) (Nat.le_trans hsz2 (by simp)) ?_; intro v3 w3 h3 hb3 h3n)
      go_meet
      exact ⟨_, by simp; omega, h3, h3n, (Hbel2 _).out.trans hb3⟩
    · go_wp2_with (at_builtin; refine wpList_append_z rfl (.tmp 28) (.tmp 33) rfl w1.heap.size g xcap l rfl (H2 _).out 13255 rfl (by omega) (Nat.le_trans hsz2 (by simp)) ?_; intro v3 w3 h3 hb3 h3n)
      go_meet
      exact ⟨_, by simp; omega, h3, h3n, (Hbel2 _).out.trans hb3⟩
    · go_wp2_with (at_builtin; refine wpList_append_z rfl (.tmp 28) (.tmp 33) rfl w1.heap.size g xcap l rfl (H2 _).out 13256 rfl (by omega) (Nat.le_trans hsz2 (by simp)) ?_; intro v3 w3 h3 hb3 h3n)
      go_meet
      exact ⟨_, by simp; omega, h3, h3n, (Hbel2 _).out.trans hb3⟩
    · go_wp2_with (at_builtin; refine wpList_append_z rfl (.tmp 28) (.tmp 33) rfl w1.heap.size g xcap l rfl (H2 _).out 13257 rfl (by omega) (Nat.le_trans hsz2 (by simp)) ?_; intro v3 w3 h3 hb3 h3n)
      go_meet
      exact ⟨_, by simp; omega, h3, h3n, (Hbel2 _).out.trans hb3⟩
  case rest =>
    obtain ⟨C, hC, hown, hne, hbel⟩ := hcut
    obtain ⟨gc, cc, curc, rfl, hgc, hbc, hcc, hrc⟩ := hown.notNil hne
    have hsC := rangeSrc hrc hbc.lt
    have hO2 : Only [] w wc := HO1.out.then (only_below hbel) [] (by simp) (by simp)
    have hsz2 := hO2.size
    have HsC := Lib.hid hsC
    have HO2 := Lib.hid hO2
    clear hown hne hbel hbc hrc hsC hO2 hs1 HO1
    go_wp2_with fail
    refine (within_any _ gen 4294967295 (by omega) (by omega)).mono ?_
    rintro e w' ⟨rfl, rfl⟩
    generalize gen % 4294967295 = G at *
    have hg3 := IsBlk.made wc (.cells #[.int .i64 (1 + G), .int .i64 raw] 3)
    have hO3 := HO2.out.alloc (.cells #[.int .i64 (1 + G), .int .i64 raw] 3)
    have hs3 := HsC.out.more ((Only.refl [] wc).alloc (.cells #[.int .i64 (1 + G), .int .i64 raw] 3))
    have Hg3 := Lib.hid hg3
    have HO3 := Lib.hid hO3
    have Hs3 := Lib.hid hs3
    clear hg3 hO3 hs3 HsC HO2
    go_upto_region 7 with fail
    generalize wc.alloc (.cells #[.int .i64 (1 + G), .int .i64 raw] 3) = w3 at *
    have hg3l := Hg3.out.lt
    generalize wc.heap.size = gg at *
    go_wp2_with fail
    go_loopw [13] (fun i wr => ∃ k : Nat, k ≤ 2 ∧ i = .int .i64 k ∧ Only [] w3 wr) (fun i _ => 2 - (intOf i).toNat)
    case atStart => exact ⟨0, Nat.zero_le _, rfl, Only.refl _ _⟩
    case round =>
      obtain ⟨k, hk, rfl, hO⟩ := hrel
      by_cases hlt : k < 2
      · have hlti : (k : Int) < 2 := by omega
        have hg4 := Hg3.out.only hO (by simp)
        obtain ⟨gi, hgi⟩ : ∃ gi : Int, wr.cell? ⟨gg, k, none⟩ = some (.int .i64 gi) := by
          rcases (show k = 0 ∨ k = 1 by omega) with rfl | rfl
          · exact ⟨_, hg4.cell 0⟩
          · exact ⟨_, hg4.cell 1⟩
        have hggl := hg4.lt
        have hs4 := Hs3.out.more hO
        have Hs4 := Lib.hid hs4
        have HO := Lib.hid hO
        clear hg4 hs4 hO
        have hrw : IntKind.i64.wrap (rec' % 65538 - 1) = rec' % 65538 - 1 := IntWalk.i64_in _ (by omega)
        go_upto_region 10 with fail
        obtain ⟨ps, code, hX⟩ : ∃ ps code, cutX gi (rec' % 65538 - 1) C = (ps, code) := ⟨_, _, rfl⟩
        have HX := Lib.hid hX
        have hpl : ps.length ≤ 255 := cutX_len hX
        clear hX
        have hemp : OwnB (wr.alloc (.cells #[] 5)).drew wr.heap.size (.slice (some ⟨wr.heap.size, 0, none⟩) 0 0) [] := (OwnB.empty wr wr.heap.size (Nat.le_refl _)).drew
        have Hemp := Lib.hid hemp
        have hOe : Only [] wr (wr.alloc (.cells #[] 5)).drew := ((Only.refl [] wr).alloc _).drew
        have HOe := Lib.hid hOe
        clear hemp hOe
        go_cut [14, 15] from 44 to 58 (fun s14 s15 wx => ∃ a14 c14, s14 = .slice a14 ps.length c14 ∧ s15 = .int .i64 code ∧ PartsAt wx a14 ps.length ps ∧ Only [] wr wx)
        case first =>
          go_region_held3 (fun W => W.cell? ⟨gg, k, none⟩ = some (.int .i64 gi))
            (first | assumption | exact only_cell hO6 hggl hgi | exact only_cell hO5 hggl hgi | exact only_cell HOe.out hggl hgi | exact only_cell (Only.refl [] wr).drew hggl hgi)
            (first
              | (go_at_call 22
                 refine Calls.mono (cut_gen _ gi (rec' % 65538 - 1) _ _ C hs5 (by omega)) ?_
                 rw [HX.out]
                 rintro e w6 ⟨a14, c14, rfl, hp6, hO56⟩
                 have hO6 : Only [] wr w6 := hO5.then hO56 [] (by simp) (by simp))
              | (go_at_call 20
                 refine Calls.mono (within_any _ rec' 65538 (by omega) (by omega)) ?_
                 rintro e w' ⟨rfl, rfl⟩)
              | (rw [if_pos (by rfl)]
                 refine wp_append_b _ _ rfl wr.heap.size _ [] rfl Hemp.out (some ⟨gc, 0, none⟩) C.length cc C rfl (Hs4.out.more HOe.out) (by simp; omega) HOe.out.size ?_
                 intro v5 w5 h5 hb5 hn5
                 rw [List.nil_append] at h5
                 have hO5 : Only [] wr w5 := HOe.out.belowThen hb5
                 obtain ⟨g5, c5, cur5, rfl, _, hbk5, _, hr5⟩ := h5.notNil (fun e => by have := hn5 e; simp [Act.eval] at this)
                 have hs5 := rangeSrc hr5 hbk5.lt
                 clear hn5))
          all_goals
            go_wp2_with fail
            go_meet
            exact ⟨a14, c14, rfl, rfl, hp6, hO6⟩
        case rest =>
          obtain ⟨a14, c14, rfl, rfl, hp7, hO7⟩ := hcut
          have hgi7 := only_cell hO7 hggl hgi
          have hs7 := Hs4.out.more hO7
          have Hp7 := Lib.hid hp7
          have HO7 := Lib.hid hO7
          have Hs7 := Lib.hid hs7
          have hggl7 : gg < wc.heap.size := Nat.lt_of_lt_of_le hggl hO7.size
          clear hp7 hO7 hs7 Hs4 Hemp HOe hgi
          go_wp2_with fail
          go_region_held3 (fun W => W.cell? ⟨gg, k, none⟩ = some (.int .i64 gi))
            (first | assumption | exact only_cell hO8 hggl7 hgi7 | exact only_cell (Only.refl [] wc).drew hggl7 hgi7)
            (first
              | (go_at_call 23
                 refine Calls.mono (refcut_gen _ gi (rec' % 65538 - 1) _ _ C (Hs7.out.more (Only.refl [] wc).drew) (by omega)) ?_
                 rw [HX.out]
                 rintro e w8 ⟨a16, c16, rfl, hp8, hO78⟩
                 have hO8 : Only [] wc w8 := ((Only.refl [] wc).drew).then hO78 [] (by simp) (by simp))
              | (go_at_call 20
                 refine Calls.mono (within_any _ rec' 65538 (by omega) (by omega)) ?_
                 rintro e w' ⟨rfl, rfl⟩))
          rename_i hheld
          clear hheld
          have hp78 := Hp7.out.more hO8
          have hO08 : Only [] w3 w8 := (HO.out.then HO7.out [] (by simp) (by simp)).then hO8 [] (by simp) (by simp)
          have hs8 := Hs7.out.more hO8
          have Hp8 := Lib.hid hp8
          have Hp78 := Lib.hid hp78
          have HO8 := Lib.hid hO08
          have Hs8 := Lib.hid hs8
          clear hp8 hp78 hO8 hO78 hO08 hs8 Hp7 HO7 Hs7 hgi7 hggl7
          go_wp2_with fail
          go_loopw [18] (fun i wx => ∃ j : Nat, j ≤ ps.length ∧ i = .int .i64 j ∧ Only [] w8 wx) (fun i _ => ps.length - (intOf i).toNat)
          case atStart => exact ⟨0, Nat.zero_le _, rfl, Only.refl _ _⟩
          case round =>
            obtain ⟨j, hj, rfl, hOj⟩ := hrel
            have HOj := Lib.hid hOj
            by_cases hltj : j < ps.length
            · have hltji : (j : Int) < (ps.length : Int) := by omega
              obtain ⟨b4, o4, ha14, hb4, hps4⟩ := (Hp78.out.more hOj).2 (by omega)
              obtain ⟨b6, o6, ha16, hb6, hps6⟩ := (Hp8.out.more hOj).2 (by omega)
              subst ha14
              subst ha16
              obtain ⟨da, dc, hr4, hsd4⟩ := hps4 j ps[j] (List.getElem?_eq_getElem hltj)
              obtain ⟨ea, ec, hr6, hsd6⟩ := hps6 j ps[j] (List.getElem?_eq_getElem hltj)
              generalize ps[j] = p at *
              obtain ⟨pg, pr, pn, po, pd⟩ := p
              simp only at hr4 hr6 hsd4 hsd6
              have Hr4 := Lib.hid hr4
              have Hr6 := Lib.hid hr6
              have Hsd4 := Lib.hid hsd4
              have Hsd6 := Lib.hid hsd6
              clear hr4 hr6 hsd4 hsd6 hps4 hps6 hOj
              go_upto_region 17 with fail
              refine region_ten (w0 := wr) (b := b4) (o := o4 + j * 5) (b' := b6) (o' := o6 + j * 5) (p := ⟨pg, pr, pn, po, pd⟩) (da := da) (dc := dc) (ea := ea) (ec := ec) (by kernel_rfl) (by kernel_rfl) ⟨⟨fun x v hv => Hr4.out x v hv, fun x v hv => Hr6.out x v hv⟩, (Only.refl [] wr).drew⟩ ?_
              iterate 10
                (go_big_quiet_step (first
                   | (intro hW
                      go_at_call 19
                      refine (same_eq _ pg pr pn po da ea pd.length dc ec pd (Hsd4.out.more hW.2) (Hsd6.out.more hW.2)).mono ?_
                      rintro e w'' ⟨rfl, hO2⟩
                      exact ⟨rfl, hW.more hO2 (Nat.lt_of_lt_of_le hb4 hW.2.size) (Nat.lt_of_lt_of_le hb6 hW.2.size)⟩)
                   | (intro hW
                      have q0 : World.cell? _ ⟨b4, o4 + j * 5, none⟩ = some (.int .i64 pg) := hW.1.1 0 _ rfl
                      have q1 : World.cell? _ ⟨b4, o4 + j * 5 + 1, none⟩ = some (.int .i64 pr) := hW.1.1 1 _ rfl
                      have q2 : World.cell? _ ⟨b4, o4 + j * 5 + 2, none⟩ = some (.int .i64 pn) := hW.1.1 2 _ rfl
                      have q3 : World.cell? _ ⟨b4, o4 + j * 5 + 3, none⟩ = some (.int .i64 po) := hW.1.1 3 _ rfl
                      have q4 : World.cell? _ ⟨b4, o4 + j * 5 + 4, none⟩ = some (.slice da pd.length dc) := hW.1.1 4 _ rfl
                      have z0 : World.cell? _ ⟨b6, o6 + j * 5, none⟩ = some (.int .i64 pg) := hW.1.2 0 _ rfl
                      have z1 : World.cell? _ ⟨b6, o6 + j * 5 + 1, none⟩ = some (.int .i64 pr) := hW.1.2 1 _ rfl
                      have z2 : World.cell? _ ⟨b6, o6 + j * 5 + 2, none⟩ = some (.int .i64 pn) := hW.1.2 2 _ rfl
                      have z3 : World.cell? _ ⟨b6, o6 + j * 5 + 3, none⟩ = some (.int .i64 po) := hW.1.2 3 _ rfl
                      have z4 : World.cell? _ ⟨b6, o6 + j * 5 + 4, none⟩ = some (.slice ea pd.length ec) := hW.1.2 4 _ rfl
                      go_simp
                      first | done | exact rfl | exact ⟨rfl, rfl⟩)))
              refine wpQuiet_nil ?_
              intro wq hwq
              have hOq := HOj.out.then hwq.2 [] (by simp) (by simp)
              clear hwq
              go_wp2
              go_roundw
              case rel => exact ⟨j + 1, by omega, by go_num, hOq⟩
              case measure => simp [intOf]; omega
            · have hgej : ¬ (j : Int) < (ps.length : Int) := by omega
              have hO09 : Only [] w3 wr := HO8.out.then hOj [] (by simp) (by simp)
              have hp9 := Hp78.out.more hOj
              have hs9 := Hs8.out.more hOj
              have Hp9 := Lib.hid hp9
              have Hs9 := Lib.hid hs9
              have HO9 := Lib.hid hO09
              clear hp9 hs9 hO09 hOj HOj Hp78 Hp8 Hs8 HO8
              by_cases hcode : code = 0
              · subst hcode
                obtain ⟨hm0, hp0, hps0⟩ := cutX_zero HX.out
                have hjn : joinB ps = some C := by rw [hps0]; exact join_cut hm0 hp0
                have Hjn := Lib.hid hjn
                clear hm0 hp0 hps0 hjn
                go_wp2_with fail
                refine (join_any _ a14 ps.length c14 ps Hp9.out (by omega)).mono ?_
                rw [Hjn.out]
                rintro e wj ⟨ja, rfl, hsj, _, hOj⟩
                have cv1 := conv_src wj ja C.length C.length C hsj
                have cv2 := conv_src wj (some ⟨gc, 0, none⟩) C.length cc C (Hs9.out.more hOj)
                have hOf : Only [] w3 wj := HO9.out.then hOj [] (by simp) (by simp)
                have HOf := Lib.hid hOf
                clear hsj hOj hOf
                go_wp2
                go_roundw
                case rel => exact ⟨k + 1, by omega, by go_num, HOf.out⟩
                case measure => simp [intOf]; omega
              · have hcne : ((code : Int) != 0) = true := by simp; omega
                go_wp2
                go_roundw
                case rel => exact ⟨k + 1, by omega, by go_num, HO9.out⟩
                case measure => simp [intOf]; omega
      · have hge : ¬ (k : Int) < 2 := by omega
        go_wp2
        go_ret
        exact ⟨rfl, HO3.out.then hO [] (by simp) (by simp)⟩

end Go.Proofs.Ytiegkdkbkkbjpaa
