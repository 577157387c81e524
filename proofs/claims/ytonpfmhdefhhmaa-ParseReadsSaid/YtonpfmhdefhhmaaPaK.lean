/-
  endless: false, of statements whose blocks lie each in memory of its own.
-/
import Derived.Test.YtonpfmhdefhhmaaPaJ
namespace Go.Proofs.Ytonpfmhdefhhmaa
set_option maxRecDepth 100000
set_option linter.unusedVariables false
open Go.RowKit Go.Sort

/-- How many statements there are, those within blocks too. -/
def Blk.cnt : Blk → Nat
  | .nil => 0
  | .cons _ _ _ a b r => a.cnt + b.cnt + r.cnt + 1
theorem Blk.len_cnt : ∀ (b : Blk), b.len ≤ b.cnt
  | .nil => Nat.le_refl _
  | .cons _ _ _ a b r => by have := r.len_cnt; simp only [Blk.len, Blk.cnt]; omega
theorem RowE.cnt {w : World} {b : Blk} {v : Value} {fp : List Nat} (h : RowE w (EncB w b) b.len v fp) (hE : ∀ xs fq, EncB w b xs fq → fq.length + b.len ≤ b.cnt) : fp.length ≤ b.cnt := by
  rcases h with ⟨-, -, rfl⟩ | ⟨g, c, fq, xs, -, -, hn, rfl, -, -, he⟩
  · simp
  · have := hE _ _ he; simp only [List.length_cons]; omega
theorem EncB.cnt {w : World} : ∀ {b : Blk} {xs : List Value} {fp : List Nat}, EncB w b xs fp → fp.length + b.len ≤ b.cnt
  | .nil, xs, fp, h => by rw [h.2]; simp [Blk.len, Blk.cnt]
  | .cons k p n a b r, xs, fp, h => by
    obtain ⟨va, vb, fa, fb, fr, xr, rfl, rfl, h1, h2, h3⟩ := h
    have i1 := RowE.cnt h1 (fun _ _ he => EncB.cnt he)
    have i2 := RowE.cnt h2 (fun _ _ he => EncB.cnt he)
    have i3 := EncB.cnt h3
    simp only [List.length_append, Blk.len, Blk.cnt]
    omega
theorem BlkAt.cnt {w : World} {v : Value} {b : Blk} {fp : List Nat} (h : BlkAt w v b fp) : fp.length ≤ b.cnt := RowE.cnt h (fun _ _ he => EncB.cnt he)
theorem BlkAt.pos {w : World} {v : Value} {b : Blk} {fp : List Nat} (h : BlkAt w v b fp) : (b.len = 0 → b = .nil ∧ fp = []) ∧ (0 < b.len → 0 < fp.length) := by
  refine ⟨fun h0 => ?_, fun h0 => ?_⟩
  · rcases h with ⟨-, h1, rfl⟩ | ⟨g, c, fq, xs, -, -, hn, -⟩
    · exact ⟨Blk.len_zero b h1, rfl⟩
    · omega
  · rcases h with ⟨-, h1, rfl⟩ | ⟨g, c, fq, xs, -, -, hn, rfl, -⟩
    · omega
    · simp

def addLev (l : List Lev) (x : Lev) : List Lev := if x.b.len = 0 then l else l ++ [x]
theorem addLev_fp {w : World} {l : List Lev} {x : Lev} (h : LevAt w x) : lvFp (addLev l x) = lvFp l ++ x.fp := by
  unfold addLev
  split
  · rename_i h0; rw [((BlkAt.pos h).1 h0).2, List.append_nil]
  · exact lvFp_snoc l x
theorem addLev_wt {w : World} {l : List Lev} {x : Lev} (h : LevAt w x) : lvWt (addLev l x) = lvWt l + x.fp.length := by
  unfold addLev
  split
  · rename_i h0; rw [((BlkAt.pos h).1 h0).2]; rfl
  · rename_i h0; rw [lvWt_snoc]; have := (BlkAt.pos h).2 (by omega); omega
theorem addLev_len (l : List Lev) (x : Lev) : l.length ≤ (addLev l x).length ∧ (addLev l x).length ≤ l.length + 1 := by
  unfold addLev; split <;> simp
theorem mem_addLev {l : List Lev} {x y : Lev} (h : y ∈ addLev l x) : y ∈ l ∨ y = x := by
  unfold addLev at h
  split at h
  · exact .inl h
  · simpa using h
theorem lvWt_len : ∀ (l : List Lev), l.length ≤ lvWt l
  | [] => Nat.le_refl _
  | x :: r => by have := lvWt_len r; simp only [lvWt, List.map_cons, List.sum_cons, List.length_cons] at *; omega

theorem push_lev (w : World) (base : Nat) (items : List Lev) (v : Value) (hown : w.ownsRow base 124 2 v items.length (lvCells items)) (hn : items.length ≤ 1000000) (hb : base ≤ w.heap.size) (x : Lev) :
    Calls Try.prog 81 #[v, .agg #[.slice x.a x.b.len x.c, .int .i64 x.d]] w fun e w' => ∃ v', e = .returned v' ∧ w'.ownsRow base 124 2 v' (addLev items x).length (lvCells (addLev items x)) ∧ Only (ownL v) w w' ∧ ∀ g ∈ ownL v', g ∈ ownL v ∨ w.heap.size ≤ g := by
  by_cases h0 : x.b.len = 0
  · rw [h0]
    refine (push_none w v x.a x.c x.d).mono ?_
    rintro e w' ⟨rfl, hO⟩
    refine ⟨v, rfl, ?_, hO.into (by simp), fun g hg => .inl hg⟩
    unfold addLev
    rw [if_pos h0]
    exact owns_keep hown hO (by simp)
  · refine (push_any w base items.length v _ hown hn hb x.a x.b.len x.c x.d (by omega)).mono ?_
    rintro e w' ⟨v', rfl, h2, hO, hg⟩
    refine ⟨v', rfl, ?_, hO, hg⟩
    unfold addLev
    rw [if_neg h0, lvCells_snoc, List.length_append]
    exact h2

theorem MarkOk.less {w : World} {a : Option Addr} {n : Nat} {F G : List Nat} (h : MarkOk w a n F) (hs : ∀ k ∈ G, k ∈ F) : MarkOk w a n G := by
  rcases h with h | ⟨g, h1, h2, h3⟩
  · exact .inl h
  · exact .inr ⟨g, h1, fun hm => h2 (hs g hm), h3⟩

theorem lev_open {w : World} {x : Lev} (h : LevAt w x) : ∃ fq xs, EncB w x.b xs fq ∧ (0 < x.b.len → ∃ gx, x.a = some ⟨gx, 0, none⟩ ∧ gx < w.heap.size ∧ w.rangeAt gx 0 xs) ∧ fq.length + 1 ≤ max 1 x.fp.length ∧
    (∀ F : List Nat, (F ++ x.fp).Nodup → (F ++ fq).Nodup ∧ MarkOk w x.a x.b.len (F ++ fq)) ∧ (∀ k ∈ fq, k ∈ x.fp) := by
  rcases h with ⟨h1, h2, h3⟩ | ⟨g, c, fq, xs, h1, hc, hn, h3, ⟨cs, t, hg⟩, hr, he⟩
  · have hb := Blk.len_zero x.b h2
    rw [hb, h3]
    exact ⟨[], [], ⟨rfl, rfl⟩, fun h => by simp [Blk.len] at h, by simp, fun F hF => ⟨hF, .inl rfl⟩, by simp⟩
  · injection h1 with h4 h5 h6
    refine ⟨fq, xs, he, fun _ => ⟨g, h4, hg.lt, hr⟩, by rw [h3]; simp only [List.length_cons]; omega, fun F hF => ?_, fun k hk => by rw [h3]; simp [hk]⟩
    rw [h3] at hF
    obtain ⟨n1, n2, n3⟩ := List.nodup_append.1 hF
    obtain ⟨n4, n5⟩ := List.nodup_cons.1 n2
    refine ⟨List.nodup_append.2 ⟨n1, n5, fun a ha b hb => n3 a ha b (by simp [hb])⟩, .inr ⟨g, h4, fun hm => ?_, cs, t, hg⟩⟩
    rcases List.mem_append.1 hm with hm | hm
    · exact n3 g hm g (by simp) rfl
    · exact n4 hm

set_option maxHeartbeats 16000000 in
theorem endless_any (w : World) (v : Value) (b : Blk) (fp : List Nat) (h : BlkAt w v b fp) (hnd : fp.Nodup) (hN : b.cnt ≤ 100000) : Calls Try.prog 70 #[v] w fun e w' => e = .returned (.bool false) ∧ Only [] w w' := by
  have hfl := h.cnt
  obtain ⟨a, c, rfl, hc⟩ := h.slice
  have H := Lib.hid h
  have Hnd := Lib.hid hnd
  clear h hnd
  generalize hNN : b.cnt = N at *
  have HNN := Lib.hid hNN
  clear hNN
  have hm1 := IsBlk.made w (.cells #[.slice none 0 0, .int .i64 0] 124)
  have hO1 := (Only.refl [] w).alloc (.cells #[.slice none 0 0, .int .i64 0] 124)
  have hs1 : (w.alloc (.cells #[.slice none 0 0, .int .i64 0] 124)).heap.size = w.heap.size + 1 := by simp
  go_enter Try.func70, Try.ntmps70
  go_upto_region 2 with fail
  generalize hW1 : w.alloc (.cells #[.slice none 0 0, .int .i64 0] 124) = w1 at *
  clear hW1
  have hO2 := (Only.refl [] w1).alloc (.cells #[.slice a b.len c, .int .i64 1] 124)
  have hm2 := hm1.only hO2 (by simp)
  have hq := IsBlk.made w1 (.cells #[.slice a b.len c, .int .i64 1] 124)
  have hown : (w1.alloc (.cells #[.slice a b.len c, .int .i64 1] 124)).ownsRow w1.heap.size 124 2 (.slice (some ⟨w1.heap.size, 0, none⟩) 1 1) 1 [.slice a b.len c, .int .i64 1] :=
    ⟨rfl, .inr ⟨w1.heap.size, 1, #[.slice a b.len c, .int .i64 1], rfl, Nat.le_refl _, hq, Nat.le_refl _, by simp [maxLen], rfl, rfl⟩⟩
  have Hown := Lib.hid hown
  have Hm2 := Lib.hid hm2
  have HO := Lib.hid (hO1.plus hO2)
  have hsz := hO2.size
  clear hown hm2 hO1 hO2 hq hm1
  go_wp2_with fail
  go_loopg [4] 1000000 (fun gk tv wr => ∃ (items : List Lev) (ma : Option Addr) (mn mc md : Nat), lvWt items ≤ gk ∧ wr.ownsRow w1.heap.size 124 2 tv items.length (lvCells items) ∧ (∀ x ∈ items, LevAt w x ∧ x.b.cnt ≤ N ∧ x.d + (lvFp items).length ≤ N + 1) ∧ (lvFp items).Nodup ∧
    IsBlk wr w.heap.size (.cells #[.slice ma mn mc, .int .i64 md] 124) ∧ MarkOk w ma mn (lvFp items) ∧ md ≤ N + 1 ∧ Only [] w wr ∧ w1.heap.size ≤ wr.heap.size ∧ lvWt items ≤ N + 1)
  case atStart =>
    have hst : (w1.alloc (.cells #[.slice a b.len c, .int .i64 1] 124)).ownsRow w1.heap.size 124 2 (.slice (some ⟨w.heap.size + 1, 0, none⟩) 1 1) 1 [.slice a b.len c, .int .i64 1] := by
      have h := Hown.out
      rw [show Value.slice (some ⟨w1.heap.size, 0, none⟩) 1 1 = .slice (some ⟨w.heap.size + 1, 0, none⟩) 1 1 from by rw [hs1]] at h
      exact h
    refine ⟨[⟨a, c, b, fp, 1⟩], none, 0, 0, 0, ?_, hst, ?_, ?_, Hm2.out, .inl rfl, by omega, HO.out, hsz, ?_⟩
    · simp [lvWt]; omega
    · intro x hx
      simp only [List.mem_singleton] at hx
      subst hx
      refine ⟨H.out, by rw [HNN.out]; exact Nat.le_refl _, ?_⟩
      simp [lvFp]; omega
    · simpa [lvFp] using Hnd.out
    · simp [lvWt]; omega
  case round =>
    obtain ⟨items, ma, mn, mc, md, hgk, hown, hits, hnd, hmk, hmo, hmd, hO, hs, hwt⟩ := hrel
    have hil := lvWt_len items
    obtain ⟨at0, ct, rfl⟩ := owns_slice hown
    have HOr := Lib.hid hO
    clear Hown Hm2 HO hO H Hnd HNN
    have hcase : items = [] ∨ ∃ ini x, items = ini ++ [x] := by
      rcases List.eq_nil_or_concat items with h | ⟨L, y, h⟩
      · exact .inl h
      · exact .inr ⟨L, y, by simpa using h⟩
    rcases hcase with rfl | ⟨ini, x, rfl⟩
    · clear hown hits hnd hmo hil hgk hwt
      go_wp2
      go_ret
      exact ⟨rfl, HOr.out⟩
    · have hown' : wr.ownsRow w1.heap.size 124 2 (.slice at0 (ini.length + 1 : Nat) ct) (ini.length + 1) (lvCells ini ++ [.slice x.a x.b.len x.c, .int .i64 x.d]) := by
        have h := hown
        rw [lvCells_snoc, List.length_append] at h
        exact h
      obtain ⟨gt, rfl, hgb, hgl, hct, c0, c1, hpop⟩ := own_pop hown'
      obtain ⟨hx1, hx2, hx3⟩ := hits x (by simp)
      have hxl : x.b.len ≤ N := Nat.le_trans x.b.len_cnt hx2
      have Hx1 := Lib.hid hx1
      have hxp := hx1.pos
      have hmx : MarkOk w ma mn x.fp := hmo.less (fun k hk => by rw [lvFp_snoc]; simp [hk])
      have Hmx := Lib.hid hmx
      have Hmo := Lib.hid hmo
      have Hits := Lib.hid hits
      have Hnd := Lib.hid hnd
      have Hpop := Lib.hid hpop
      rw [lvFp_snoc, List.length_append] at hx3
      rw [lvWt_snoc] at hgk hwt hil
      rw [List.length_append] at hil
      have hw1 : w.heap.size < w1.heap.size := by omega
      have Hmk := Lib.hid hmk
      have hmkl := hmk.lt
      clear hown hown' hpop hits hnd hmo hx1 hmx hmk
      -- x in a variable of its own
      have hOa := Lib.hid ((Only.refl [] wr).alloc (.cells #[.slice x.a x.b.len x.c, .int .i64 x.d] 124))
      have Hv := Lib.hid (IsBlk.made wr (.cells #[.slice x.a x.b.len x.c, .int .i64 x.d] 124))
      have Hmk2 := Lib.hid (Hmk.out.only hOa.out (by simp))
      have Hpop2 := Lib.hid (owns_keep Hpop.out hOa.out (by simp))
      have HO2 := Lib.hid (HOr.out.plus hOa.out)
      have hsz2 := hOa.out.size
      have hn1 : ((ini.length : Int) + 1 - 1) = (ini.length : Int) := by omega
      have hil0 : ini.length ≤ 200000 := by simp at hil; omega
      have hcti : (ini.length : Int) + 1 ≤ (ct : Int) := by omega
      simp only [List.length_append, List.length_cons, List.length_nil, Nat.zero_add] at *
      go_upto_region 6 with fail
      generalize hW2 : wr.alloc (.cells #[.slice x.a x.b.len x.c, .int .i64 x.d] 124) = w2 at *
      clear hW2
      go_cut [36] (fun s36 wx => s36 = .bool false ∧ Only [] w2 wx)
      case first =>
        have d0 := Hv.out.cell 0
        have d1 := Hv.out.cell 1
        have d2 := Hmk2.out.cell 0
        have d3 := Hmk2.out.cell 1
        have dl := Hv.out.lt
        have dm := Hmk2.out.lt
        clear hmkl
        by_cases hgt : md < x.d
        · have hgti : (md : Int) < (x.d : Int) := by omega
          go_wp2_with fail
          refine (same_mark _ w HO2.out x Hx1.out ma mn mc Hmx.out).mono ?_
          rintro r w3 ⟨rfl, hO3⟩
          go_wp2_with fail
          go_meet
          exact ⟨rfl, hO3⟩
        · have hgti : ¬ (md : Int) < (x.d : Int) := by omega
          go_wp2_with fail
          go_meet
          exact ⟨rfl, Only.refl _ _⟩
      case rest =>
        obtain ⟨rfl, hO3⟩ := hcut
        rename_i w3
        have HM3 := Lib.hid (Hmk2.out.only hO3 (by simp))
        have HV3 := Lib.hid (Hv.out.only hO3 (by simp))
        have HP3 := Lib.hid (owns_keep Hpop2.out hO3 (by simp))
        have HO3 := Lib.hid (HO2.out.plus hO3)
        have hs3 : w1.heap.size ≤ _ := Nat.le_trans (Nat.le_trans hs hsz2) hO3.size
        clear hO3 Hmk2 Hv Hpop2 HO2 hOa
        generalize wc = w4 at *
        have d0 := HV3.out.cell 0
        have d1 := HV3.out.cell 1
        have d2 := HM3.out.cell 0
        have d3 := HM3.out.cell 1
        have dl := HV3.out.lt
        have dm := HM3.out.lt
        have f0 := HM3.out.notFrozen 0
        have f1 := HM3.out.notFrozen 1
        go_upto_region 8 with fail
        go_cut [49] (fun s49 wx => s49 = .bool (decide (x.d ≤ md ∨ 2 * md ≤ x.d)) ∧ w4 = wx)
        case first =>
          by_cases hle : x.d ≤ md
          · have hlei : (x.d : Int) ≤ (md : Int) := by omega
            have hde : decide (x.d ≤ md ∨ 2 * md ≤ x.d) = true := by simp [hle]
            go_wp2_with fail
            go_meet
            exact ⟨by rw [hde], rfl⟩
          · have hlei : ¬ (x.d : Int) ≤ (md : Int) := by omega
            by_cases h2m : 2 * md ≤ x.d
            · have h2i : (2 : Int) * (md : Int) ≤ (x.d : Int) := by omega
              have hde : decide (x.d ≤ md ∨ 2 * md ≤ x.d) = true := by simp [h2m]
              go_wp2_with fail
              go_meet
              exact ⟨by rw [hde], rfl⟩
            · have h2i : ¬ (2 : Int) * (md : Int) ≤ (x.d : Int) := by omega
              have hde : decide (x.d ≤ md ∨ 2 * md ≤ x.d) = false := by simp [hle, h2m]
              go_wp2_with fail
              go_meet
              exact ⟨by rw [hde], rfl⟩
        case rest =>
          obtain ⟨rfl, rfl⟩ := hcut
          generalize decide (x.d ≤ md ∨ 2 * md ≤ x.d) = up at *
          go_upto_if 49 with fail
          go_cut [] (fun wx => ∃ (ma2 : Option Addr) (mn2 mc2 md2 : Nat), IsBlk wx w.heap.size (.cells #[.slice ma2 mn2 mc2, .int .i64 md2] 124) ∧ (ma2 = ma ∧ mn2 = mn ∨ ma2 = x.a ∧ mn2 = x.b.len) ∧ md2 ≤ N + 1 ∧ Only [w.heap.size] w4 wx)
          case first =>
            cases up with
            | true =>
              go_wp2_with fail
              go_meet
              exact ⟨x.a, x.b.len, x.c, x.d, IsBlk.put (IsBlk.put HM3.out 0 (.slice x.a x.b.len x.c)) 1 (.int .i64 x.d), .inr ⟨rfl, rfl⟩, by omega, ((Only.refl [w.heap.size] w4).setCell (p := ⟨w.heap.size, 0, none⟩) (.inl (by simp)) _).setCell (p := ⟨w.heap.size, 1, none⟩) (.inl (by simp)) _⟩
            | false =>
              go_wp2_with fail
              go_meet
              exact ⟨ma, mn, mc, md, HM3.out, .inl ⟨rfl, rfl⟩, hmd, Only.refl _ _⟩
          case rest =>
            obtain ⟨ma2, mn2, mc2, md2, hM4, hcase2, hmd2, hO4⟩ := hcut
            have hVl := HV3.out.lt
            have HM4 := Lib.hid hM4
            have HV4 := Lib.hid (HV3.out.only hO4 (by simp; omega))
            have HP4 := Lib.hid (owns_keep HP3.out hO4 (by simp; omega))
            have HO4 := Lib.hid (HO3.out.then hO4 [] (by simp) (by simp))
            have Hca := Lib.hid hcase2
            have hgtw : gt < wr.heap.size := hgl
            clear hM4 hO4 hcase2 HM3 HV3 HP3 HO3 d0 d1 d2 d3 f0 f1 dl dm
            generalize wc = w5 at *
            have hgvl : w1.heap.size ≤ wr.heap.size := hs
            generalize wr.heap.size = gv at *
            have z0 := HV4.out.cell 0
            have z1 := HV4.out.cell 1
            have zl := HV4.out.lt
            go_wp2_with fail
            go_loopg [4, 54] 1000000 (fun gj tv iv wz => ∃ (its : List Lev) (j : Nat) (rs : Blk) (xr : List Value) (fr : List Nat), iv = .int .i64 j ∧ rs.len ≤ gj ∧ j + rs.len = x.b.len ∧ EncB w rs xr fr ∧ rs.cnt ≤ N ∧
              (0 < rs.len → ∃ gx, x.a = some ⟨gx, 0, none⟩ ∧ gx < w.heap.size ∧ w.rangeAt gx (j * 5) xr) ∧
              wz.ownsRow w1.heap.size 124 2 tv its.length (lvCells its) ∧ (∀ g ∈ ownL tv, g ≠ gv) ∧ (∀ y ∈ its, LevAt w y ∧ y.b.cnt ≤ N ∧ y.d + (lvFp its).length + fr.length ≤ N + 1) ∧ (0 < rs.len → x.d + 1 + (lvFp its).length + fr.length ≤ N + 1) ∧ (lvFp its ++ fr).Nodup ∧
              IsBlk wz w.heap.size (.cells #[.slice ma2 mn2 mc2, .int .i64 md2] 124) ∧ IsBlk wz gv (.cells #[.slice x.a x.b.len x.c, .int .i64 x.d] 124) ∧ MarkOk w ma2 mn2 (lvFp its ++ fr) ∧
              Only [] w wz ∧ lvWt its + fr.length + 1 ≤ gk ∧ lvWt its + fr.length ≤ N)
            case atStart =>
              obtain ⟨fq, xs, o1, o2, o3, o4, o5⟩ := lev_open Hx1.out
              obtain ⟨o6, o7⟩ := o4 (lvFp ini) (by rw [← lvFp_snoc]; exact Hnd.out)
              have hcn := EncB.cnt o1
              have o8 : fq.length ≤ x.fp.length := by omega
              have hmark : MarkOk w ma2 mn2 (lvFp ini ++ fq) := by
                rcases Hca.out with ⟨rfl, rfl⟩ | ⟨rfl, rfl⟩
                · exact Hmo.out.less (fun k hk => by
                    rw [lvFp_snoc]
                    rcases List.mem_append.1 hk with h | h
                    · simp [h]
                    · simp [o5 k h])
                · exact o7
              refine ⟨ini, 0, x.b, xs, fq, rfl, by omega, by omega, o1, hx2, fun h => ?_, HP4.out, fun g hg => ?_, fun y hy => ?_, ?_, o6, HM4.out, HV4.out, hmark, HO4.out, by omega, by omega⟩
              · obtain ⟨gx, p1, p2, p3⟩ := o2 h
                exact ⟨gx, p1, p2, by rw [Nat.zero_mul]; exact p3⟩
              · have := mem_ownL.1 hg
                simp only [Value.ownBlock, Option.some.injEq] at this
                omega
              · obtain ⟨p1, p2, p3⟩ := Hits.out y (by simp [hy])
                rw [lvFp_snoc, List.length_append] at p3
                exact ⟨p1, p2, by omega⟩
              · intro h
                have := hxp.2 h
                omega
            case round =>
              obtain ⟨its, j, rs, xr, fr, rfl, hgj, hjl, hE, hrc, hra, hown, hne, hits, hdd, hnd, hmk, hv, hmo, hO, hgk2, hwt2⟩ := hrel
              obtain ⟨av, cv, rfl⟩ := owns_slice hown
              have HOz := Lib.hid hO
              have Hown := Lib.hid hown
              have Hmk := Lib.hid hmk
              have Hv := Lib.hid hv
              have Hits := Lib.hid hits
              have Hnd2 := Lib.hid hnd
              have Hmo2 := Lib.hid hmo
              have hmkl := hmk.lt
              have hvl := hv.lt
              have v0 := hv.cell 0
              have v1 := hv.cell 1
              clear hO hown hmk hv hits hnd hmo
              cases rs with
              | nil =>
                obtain ⟨rfl, rfl⟩ := hE
                have hji : ¬ (j : Int) < (x.b.len : Int) := by simp only [Blk.len] at hjl; omega
                go_wp2
                go_roundg (lvWt its)
                case measure => simp only [List.length_nil] at hgk2; omega
                case rel =>
                  refine ⟨its, ma2, mn2, mc2, md2, Nat.le_refl _, Hown.out, fun y hy => ?_, by have := Hnd2.out; simpa using this, Hmk.out, by have := Hmo2.out; simpa using this, hmd2, HOz.out, by omega, by simp only [List.length_nil] at hwt2; omega⟩
                  obtain ⟨p1, p2, p3⟩ := Hits.out y hy
                  exact ⟨p1, p2, by simp only [List.length_nil] at p3; omega⟩
              | cons kd pl nm A B rr =>
                obtain ⟨va, vb, fa, fb, fr', xr', rfl, rfl, hA, hB, hE'⟩ := hE
                obtain ⟨aa, ca, rfl, hca⟩ := RowE.slice hA
                obtain ⟨ab, cb, rfl, hcb⟩ := RowE.slice hB
                obtain ⟨gx, hxa, hgx, hrx⟩ := hra (by simp [Blk.len])
                have hrz := rangeAt_only hrx HOz.out hgx (by simp)
                have k0 : wr.cell? ⟨gx, j * 5, none⟩ = some (.int .i64 kd) := hrz 0 _ rfl
                have k1 : wr.cell? ⟨gx, j * 5 + 1, none⟩ = some (.int .i64 pl) := hrz 1 _ rfl
                have k2 : wr.cell? ⟨gx, j * 5 + 2, none⟩ = some (.string ⟨nm.toArray⟩) := hrz 2 _ rfl
                have k3 : wr.cell? ⟨gx, j * 5 + 3, none⟩ = some (.slice aa A.len ca) := hrz 3 _ rfl
                have k4 : wr.cell? ⟨gx, j * 5 + 4, none⟩ = some (.slice ab B.len cb) := hrz 4 _ rfl
                have hgxz : gx < wr.heap.size := Nat.lt_of_lt_of_le hgx HOz.out.size
                have hji : (j : Int) < (x.b.len : Int) := by simp only [Blk.len] at hjl; omega
                have hdx := hdd (by simp [Blk.len])
                have hcc : A.cnt ≤ N ∧ B.cnt ≤ N ∧ rr.cnt ≤ N := by simp only [Blk.cnt] at hrc; omega
                have hits0 := lvWt_len its
                have LA : LevAt w ⟨aa, ca, A, fa, x.d + 1⟩ := hA
                have LB : LevAt w ⟨ab, cb, B, fb, x.d + 1⟩ := hB
                have eA := addLev_fp (l := its) LA
                have eB := addLev_fp (l := addLev its ⟨aa, ca, A, fa, x.d + 1⟩) LB
                have wA := addLev_wt (l := its) LA
                have wB := addLev_wt (l := addLev its ⟨aa, ca, A, fa, x.d + 1⟩) LB
                have lA := addLev_len its ⟨aa, ca, A, fa, x.d + 1⟩
                rw [eA] at eB
                rw [wA] at wB
                have HF := Lib.hid (And.intro LA (And.intro LB (And.intro eB (And.intro wB (And.intro hE' hrx)))))
                clear eA eB wA wB LA LB hE' hA hB hrz hrx hra
                have hOa := (Only.refl [] wr).alloc (.cells #[.int .i64 kd, .int .i64 pl, .string ⟨nm.toArray⟩, .slice aa A.len ca, .slice ab B.len cb] 96)
                have hsb := IsBlk.made wr (.cells #[.int .i64 kd, .int .i64 pl, .string ⟨nm.toArray⟩, .slice aa A.len ca, .slice ab B.len cb] 96)
                have Hown2 := Lib.hid (owns_keep Hown.out hOa (by simp))
                have Hmk2 := Lib.hid (Hmk.out.only hOa (by simp))
                have Hv2 := Lib.hid (Hv.out.only hOa (by simp))
                have HO2 := Lib.hid (HOz.out.plus hOa)
                have hs2 := hOa.size
                have hot : ∀ g ∈ ownL (.slice av its.length cv), w1.heap.size ≤ g ∧ g < wr.heap.size := fun g hg => World.ownsRow.lt Hown.out g (mem_ownL.1 hg)
                have Hsb := Lib.hid hsb
                clear hOa hsb
                rw [hxa]
                go_wp2_with fail
                generalize hWa : wr.alloc (.cells #[.int .i64 kd, .int .i64 pl, .string ⟨nm.toArray⟩, .slice aa A.len ca, .slice ab B.len cb] 96) = wa at *
                clear hWa
                generalize hsg : wr.heap.size = sg at *
                refine (push_lev wa w1.heap.size its _ Hown2.out (by omega) (by omega) ⟨aa, ca, A, fa, x.d + 1⟩).mono ?_
                rintro r W2 ⟨v2, rfl, hown2, hO2, hg2⟩
                obtain ⟨a2, c2, rfl⟩ := owns_slice hown2
                have hsb2 := Hsb.out.only hO2 (fun hm => by have := (hot _ hm).2; omega)
                have hv2 := Hv2.out.only hO2 (fun hm => hne _ hm rfl)
                have hm2 := Hmk2.out.only hO2 (fun hm => by have := (hot _ hm).1; omega)
                have HO3 := Lib.hid (HO2.out.then hO2 [] (by simp) (fun g hg => .inr (by have := (hot g hg).1; omega)))
                have s4 := hsb2.cell 4
                have t0 := hv2.cell 0
                have t1 := hv2.cell 1
                have l4 := hsb2.lt
                have l5 := hv2.lt
                have hs3 := hO2.size
                have Hsb3 := Lib.hid hsb2
                have Hv3 := Lib.hid hv2
                have Hmk3 := Lib.hid hm2
                have Hown3 := Lib.hid hown2
                have hot2 : ∀ g ∈ ownL (.slice a2 (addLev its ⟨aa, ca, A, fa, x.d + 1⟩).length c2), w1.heap.size ≤ g ∧ (g ∈ ownL (.slice av its.length cv) ∨ wa.heap.size ≤ g) := fun g hg => ⟨(World.ownsRow.lt hown2 g (mem_ownL.1 hg)).1, hg2 g hg⟩
                clear k0 k1 k2 k3 k4 v0 v1 hsb2 hv2 hm2 hown2 hO2 hg2
                go_wp2_with fail
                refine (push_lev W2 w1.heap.size (addLev its ⟨aa, ca, A, fa, x.d + 1⟩) _ Hown3.out (by omega) (by omega) ⟨ab, cb, B, fb, x.d + 1⟩).mono ?_
                rintro r W3 ⟨v3, rfl, hown3, hO4, hg4⟩
                have hgvn : gv < wa.heap.size := Hv2.out.lt
                have hv4 := Lib.hid (Hv3.out.only hO4 (fun hm => by
                  rcases (hot2 _ hm).2 with h | h
                  · exact hne _ h rfl
                  · omega))
                have hm4 := Lib.hid (Hmk3.out.only hO4 (fun hm => by have := (hot2 _ hm).1; omega))
                have HO5 := Lib.hid (HO3.out.then hO4 [] (by simp) (fun g hg => .inr (by have := (hot2 g hg).1; omega)))
                have hne4 : ∀ g ∈ ownL v3, g ≠ gv := fun g hg => by
                  rcases hg4 g hg with h | h
                  · rcases (hot2 g h).2 with h | h
                    · exact hne g h
                    · omega
                  · omega
                have hs5 := hO4.size
                have Hown4 := Lib.hid hown3
                have Hne4 := Lib.hid hne4
                obtain ⟨a3, c3, rfl⟩ := owns_slice hown3
                clear hown3 hO4 hg4 hne4 s4 t0 t1
                go_wp2
                rw [← hxa]
                go_roundg rr.len
                case measure => simp only [Blk.len] at hgj; omega
                case rel =>
                  obtain ⟨hLA, hLB, eB, wB, hE', hrx⟩ := HF.out
                  refine ⟨addLev (addLev its ⟨aa, ca, A, fa, x.d + 1⟩) ⟨ab, cb, B, fb, x.d + 1⟩, j + 1, rr, xr', fr', by go_num, Nat.le_refl _, by simp only [Blk.len] at hjl; omega, hE', hcc.2.2, fun h => ⟨gx, hxa, hgx, ?_⟩, Hown4.out, Hne4.out, fun y hy => ?_, fun h => ?_, ?_, hm4.out, hv4.out, ?_, HO5.out, ?_, ?_⟩
                  · intro i u hu
                    have := hrx (i + 5) u hu
                    rw [show j * 5 + (i + 5) = (j + 1) * 5 + i by omega] at this
                    exact this
                  · rw [eB]
                    simp only [List.length_append] at hdx ⊢
                    rcases mem_addLev hy with h | rfl
                    · rcases mem_addLev h with h | rfl
                      · obtain ⟨p1, p2, p3⟩ := Hits.out y h
                        simp only [List.length_append] at p3
                        exact ⟨p1, p2, by omega⟩
                      · exact ⟨hLA, hcc.1, by simp only; omega⟩
                    · exact ⟨hLB, hcc.2.1, by simp only; omega⟩
                  · rw [eB]
                    simp only [List.length_append] at hdx ⊢
                    omega
                  · rw [eB]; have := Hnd2.out; simpa [List.append_assoc] using this
                  · rw [eB]; have := Hmo2.out; simpa [List.append_assoc] using this
                  · rw [wB]; simp only [List.length_append] at hgk2; omega
                  · rw [wB]; simp only [List.length_append] at hwt2; omega

end Go.Proofs.Ytonpfmhdefhhmaa
