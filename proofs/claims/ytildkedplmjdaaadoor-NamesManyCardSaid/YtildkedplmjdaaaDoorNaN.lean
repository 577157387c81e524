/-
  moveBlock of the package names: places further on, in the blocks' own memory.
-/
import Derived.Test.YtildkedplmjdaaaDoorNaM
namespace Go.Proofs.YtildkedplmjdaaaDoor
set_option maxRecDepth 100000
set_option linter.unusedVariables false
open Go.RowKit Go.Sort

/-- A cell put into a row. -/
theorem range_put {w : World} {g o k : Nat} {cs : Array Value} {t : TypeId} {xs : List Value} (hg : IsBlk w g (.cells cs t)) (h : w.rangeAt g o xs) (hk : k < xs.length) (v : Value) :
    (w.setCell ⟨g, o + k, none⟩ v).rangeAt g o (xs.set k v) := by
  have hput := IsBlk.put hg (o + k) v
  intro i u hu
  rw [hput.cell (o + i)]
  by_cases hi : i = k
  · subst hi
    rw [List.getElem?_set_self hk] at hu
    have h1 := h i _ (List.getElem?_eq_getElem hk)
    rw [hg.cell (o + i)] at h1
    obtain ⟨hlt, -⟩ := Array.getElem?_eq_some_iff.1 h1
    rw [Array.getElem?_setIfInBounds_self_of_lt hlt]
    exact hu
  · rw [List.getElem?_set_ne (fun e => hi e.symm)] at hu
    have h1 := h i u hu
    rw [hg.cell (o + i)] at h1
    rw [Array.getElem?_setIfInBounds_ne (by omega)]
    exact h1

/-- A block opened with its own block. -/
theorem blk_own {w : World} {a : Option Addr} {c : Nat} {b : Blk} {fp : List Nat} (h : BlkAt w (.slice a b.len c) b fp) :
    b = .nil ∧ fp = [] ∧ a = none ∧ c = 0 ∨ ∃ g xs fq cs t, a = some ⟨g, 0, none⟩ ∧ 0 < b.len ∧ fp = g :: fq ∧ b.len ≤ c ∧ EncB w b xs fq ∧ w.rangeAt g 0 xs ∧ IsBlk w g (.cells cs t) := by
  rcases h with ⟨h1, h2, h3⟩ | ⟨g, c', fq, xs, h1, hc, hn, hfp, ⟨cs, t, hg⟩, hr, he⟩
  · injection h1 with h1 h4 h5
    exact .inl ⟨Blk.len_zero b h2, h3, h1, h5⟩
  · injection h1 with h1 h4 h5
    exact .inr ⟨g, xs, fq, cs, t, h1, hn, hfp, by omega, he, hr, hg⟩

theorem moveB_app (n : Nat) : ∀ (x y : Blk), moveB n (x.app y) = (moveB n x).app (moveB n y)
  | .nil, y => rfl
  | .cons _ _ _ _ _ r, y => by rw [Blk.app, moveB, moveB, Blk.app, moveB_app n r y]

set_option maxHeartbeats 16000000 in
theorem moveB_step (N by_ : Nat) (hby : by_ ≤ 1000000) (ih : ∀ b : Blk, cntB b < N → ∀ (w : World) (v : Value) (fp : List Nat), BlkAt w v b fp → fp.Nodup → cntB b ≤ 1000000 → PlB 1000000 1000000 b → Calls Tryd.prog 42 #[v, .int .i64 by_] w fun e w' => e = .returned (.tuple #[]) ∧ BlkAt w' v (moveB by_ b) fp ∧ Only fp w w')
    (b : Blk) (hN : cntB b ≤ N) (w : World) (v : Value) (fp : List Nat) (h : BlkAt w v b fp) (hnd : fp.Nodup) (hbig : cntB b ≤ 1000000) (hpl : PlB 1000000 1000000 b) :
    Calls Tryd.prog 42 #[v, .int .i64 by_] w fun e w' => e = .returned (.tuple #[]) ∧ BlkAt w' v (moveB by_ b) fp ∧ Only fp w w' := by
  obtain ⟨a, c, rfl, hc⟩ := h.slice
  have hlen := len_cntB b
  rcases blk_own h with ⟨rfl, rfl, rfl, rfl⟩ | ⟨g, xs, fq, cs, ty, rfl, h0, rfl, -, hE, hr, hg⟩
  · go_enter Tryd.func42, Tryd.ntmps42
    simp only [Blk.len]
    go_wp2_with fail
    go_loopw [7] (fun iv wr => iv = .int .i64 0 ∧ wr = w) (fun _ _ => 0)
    case atStart => exact ⟨rfl, rfl⟩
    case round =>
      obtain ⟨rfl, rfl⟩ := hrel
      go_wp2
      go_end0
      exact ⟨rfl, BlkAt.nil _, Only.refl _ _⟩
  · have H := Lib.hid (And.intro hE (And.intro hr hg))
    have Ih := Lib.hid ih
    have Hnd := Lib.hid hnd
    clear h hE hr hg ih hnd
    go_enter Tryd.func42, Tryd.ntmps42
    go_wp2_with fail
    go_loopw [7] (fun iv wr => ∃ (j : Nat) (pre rs : Blk) (x1 x2 : List Value) (f1 f2 : List Nat), iv = .int .i64 j ∧ b = pre.app rs ∧ j = pre.len ∧ cntB rs ≤ N ∧ cntB rs ≤ 1000000 ∧ PlB 1000000 1000000 rs ∧ EncB wr (moveB by_ pre) x1 f1 ∧ EncB wr rs x2 f2 ∧ fq = f1 ++ f2 ∧
        wr.rangeAt g 0 (x1 ++ x2) ∧ (∃ cs t, IsBlk wr g (.cells cs t)) ∧ Only (g :: fq) w wr) (fun iv _ => b.len - (intOf iv).toNat)
    case atStart => exact ⟨0, .nil, b, [], xs, [], fq, rfl, rfl, rfl, hN, hbig, hpl, ⟨rfl, rfl⟩, H.out.1, rfl, H.out.2.1, ⟨cs, ty, H.out.2.2⟩, Only.refl _ _⟩
    case round =>
      obtain ⟨j, pre, rs, x1, x2, f1, f2, rfl, hbp, hjp, hrc, hrb, hpl2, hE1, hE2, hfq, hr, hgb, hO⟩ := hrel
      have hbl : b.len = j + rs.len := by rw [hbp, Blk.len_app, hjp]
      have HO := Lib.hid hO
      have Hfq := Lib.hid hfq
      have Hbp := Lib.hid hbp
      have HE1 := Lib.hid hE1
      have Hgb := Lib.hid hgb
      have l1 := EncB.len hE1
      rw [moveB_len, ← hjp] at l1
      have Hjp := Lib.hid hjp
      have Hbl0 := Lib.hid hbl
      clear hO hfq hE1 hgb hbp hjp hbl
      cases rs with
      | nil =>
        obtain ⟨rfl, rfl⟩ := hE2
        have hji : ¬ (j : Int) < (b.len : Int) := by have hbl := Hbl0.out; simp only [Blk.len] at hbl; omega
        go_wp2_with fail
        go_end0
        have e : moveB by_ b = moveB by_ pre := by rw [Hbp.out, moveB_app]; exact Blk.app_nil _
        refine ⟨rfl, .inr ⟨g, c, fq, x1, ?_, ?_, ?_, rfl, Hgb.out, by simpa using hr, ?_⟩, HO.out⟩
        · exact congrArg (fun k => Value.slice (some ⟨g, 0, none⟩) k c) (moveB_len by_ b).symm
        · rw [moveB_len]; exact hc
        · rw [moveB_len]; exact h0
        · rw [e, Hfq.out, List.append_nil]; exact HE1.out
      | cons kd pl nm A B rr =>
        obtain ⟨va, vb, fa, fb, fr, xr, rfl, rfl, hA, hB, hE'⟩ := hE2
        obtain ⟨aa, ca, rfl, hca⟩ := RowE.slice hA
        obtain ⟨ab, cb, rfl, hcb⟩ := RowE.slice hB
        obtain ⟨cs2, ty2, hg2⟩ := Hgb.out
        have hgl := hg2.lt
        have hji : (j : Int) < (b.len : Int) := by have hbl := Hbl0.out; simp only [Blk.len] at hbl; omega
        have hcc : cntB A < N ∧ cntB B < N ∧ cntB rr ≤ N := by simp only [cntB] at hrc; omega
        have hcb2 : cntB A ≤ 1000000 ∧ cntB B ≤ 1000000 ∧ cntB rr ≤ 1000000 := by simp only [cntB] at hrb; omega
        obtain ⟨hp1, -, hp3, hp4, hp5⟩ := hpl2
        have hA' : BlkAt wr (.slice aa A.len ca) A fa := hA
        have hB' : BlkAt wr (.slice ab B.len cb) B fb := hB
        have hnd := Hnd.out
        rw [Hfq.out] at hnd
        simp only [List.nodup_cons, List.mem_append, List.nodup_append, not_or] at hnd
        have hwr : IntKind.i64.wrap ((pl : Int) + (by_ : Int)) = (pl : Int) + (by_ : Int) := Go.IntWalk.i64_in _ (by omega)
        have Hbl : Hid (b.len = j + (rr.len + 1)) := Lib.hid Hbl0.out
        have k1 : wr.cell? ⟨g, j * 5 + 1, none⟩ = some (.int .i64 pl) := by
          have := hr (j * 5 + 1) (.int .i64 pl) (by rw [List.getElem?_append_right (by omega), show j * 5 + 1 - x1.length = 1 by omega]; rfl)
          rwa [Nat.zero_add] at this
        have fz := hg2.notFrozen (j * 5 + 1)
        have hr2 := range_put hg2 hr (k := j * 5 + 1) (by simp; omega) (.int .i64 ((pl : Int) + (by_ : Int)))
        have hset : (x1 ++ (.int .i64 (kd : Int) :: .int .i64 (pl : Int) :: encStr nm :: .slice aa A.len ca :: .slice ab B.len cb :: xr)).set (j * 5 + 1) (.int .i64 ((pl : Int) + (by_ : Int)))
            = x1 ++ (.int .i64 (kd : Int) :: .int .i64 ((pl : Int) + (by_ : Int)) :: encStr nm :: .slice aa A.len ca :: .slice ab B.len cb :: xr) := by
          rw [List.set_append_right _ _ (by omega), show j * 5 + 1 - x1.length = 1 by omega]; rfl
        rw [hset, Nat.zero_add] at hr2
        have hg3 := IsBlk.put hg2 (j * 5 + 1) (.int .i64 ((pl : Int) + (by_ : Int)))
        have hO2 := (Only.refl [g] wr).setCell (p := ⟨g, j * 5 + 1, none⟩) (.inl (by simp)) (.int .i64 ((pl : Int) + (by_ : Int)))
        have hgA : g ∉ fa ∧ g ∉ fb ∧ g ∉ fr ∧ g ∉ f1 := by
          refine ⟨fun h => ?_, fun h => ?_, fun h => ?_, fun h => ?_⟩ <;> (have := hnd.1; simp [h] at this)
        have hA2 := Lib.hid (hA'.keep hO2 (fun k hk hm => by simp only [List.mem_singleton] at hm; subst hm; exact hgA.1 hk))
        have hB2 := Lib.hid (hB'.keep hO2 (fun k hk hm => by simp only [List.mem_singleton] at hm; subst hm; exact hgA.2.1 hk))
        have HR2 := Lib.hid (And.intro hr2 (And.intro hg3 hO2))
        have HE' := Lib.hid hE'
        have Hndf := Lib.hid hnd
        clear hA hB hA' hB' hr hset hr2 hg3 hO2 hE' hnd hg2
        go_upto_region 4 with fail
        generalize hW2 : wr.setCell ⟨g, j * 5 + 1, none⟩ (.int .i64 ((pl : Int) + (by_ : Int))) = w2 at *
        clear hW2 k1 fz
        have k3 : w2.cell? ⟨g, j * 5 + 3, none⟩ = some (.slice aa A.len ca) := by
          have := HR2.out.1 (j * 5 + 3) (.slice aa A.len ca) (by rw [List.getElem?_append_right (by omega), show j * 5 + 3 - x1.length = 3 by omega]; rfl)
          rwa [Nat.zero_add] at this
        have hgl2 := HR2.out.2.1.lt
        have hndA : fa.Nodup := Hndf.out.2.2.1.1
        go_wp2_with fail
        refine (Ih.out A hcc.1 w2 _ fa hA2.out hndA hcb2.1 hp3).mono ?_
        rintro r w3 ⟨rfl, hA3, hO3⟩
        have hr3 := rangeAt_only HR2.out.1 hO3 hgl2 hgA.1
        have hg4 := HR2.out.2.1.only hO3 hgA.1
        have hdAB : ∀ k ∈ fb, k ∉ fa := fun k hk hm => Hndf.out.2.2.1.2.2 k hm k (by simp [hk]) rfl
        have hB3 := hB2.out.keep hO3 hdAB
        have HA3 := Lib.hid hA3
        have HR3 := Lib.hid (And.intro hr3 (And.intro hg4 hO3))
        have hgl3 := hg4.lt
        have k4 : w3.cell? ⟨g, j * 5 + 4, none⟩ = some (.slice ab B.len cb) := by
          have := hr3 (j * 5 + 4) (.slice ab B.len cb) (by rw [List.getElem?_append_right (by omega), show j * 5 + 4 - x1.length = 4 by omega]; rfl)
          rwa [Nat.zero_add] at this
        have HB3 := Lib.hid hB3
        clear hA3 hr3 hg4 hO3 hB3 k3
        go_wp2_with fail
        have hndB : fb.Nodup := Hndf.out.2.2.1.2.1.1
        refine (Ih.out B hcc.2.1 w3 _ fb HB3.out hndB hcb2.2.1 hp4).mono ?_
        rintro r w4 ⟨rfl, hB4, hO4⟩
        have HB4 := Lib.hid (And.intro hB4 hO4)
        clear hB4 hO4 k4
        go_wp2
        go_roundw
        case rel =>
          have nd := Hndf.out
          have hO2 := HR2.out.2.2
          have hO3 := HR3.out.2.2
          have hO4 := HB4.out.2
          have hall : Only (g :: (fa ++ fb)) wr w4 := (hO2.then (hO3.then hO4 (fa ++ fb) (fun i hi => .inl (by simp [hi])) (fun i hi => .inl (by simp [hi]))) (g :: (fa ++ fb)) (fun i hi => .inl (by simp at hi; simp [hi])) (fun i hi => .inl (by simp only [List.mem_cons]; exact .inr hi)))
          have d1 : ∀ k ∈ f1, k ∉ g :: (fa ++ fb) := fun k hk hm => by
            simp only [List.mem_cons, List.mem_append] at hm
            rcases hm with rfl | hm
            · exact hgA.2.2.2 hk
            · have := nd.2.2.2 k hk k (by rcases hm with h | h <;> simp [h]); exact this rfl
          have d2 : ∀ k ∈ fr, k ∉ g :: (fa ++ fb) := fun k hk hm => by
            simp only [List.mem_cons, List.mem_append] at hm
            rcases hm with rfl | hm | hm
            · exact hgA.2.2.1 hk
            · exact nd.2.2.1.2.2 k hm k (by simp [hk]) rfl
            · exact nd.2.2.1.2.1.2.2 k hm k hk rfl
          have hgB4 : g ∉ fb := hgA.2.1
          have hA4 : BlkAt w4 (.slice aa A.len ca) (moveB by_ A) fa := HA3.out.keep hO4 (fun k hk hm => nd.2.2.1.2.2 k hk k (by simp [hm]) rfl)
          have hB4 : BlkAt w4 (.slice ab B.len cb) (moveB by_ B) fb := HB4.out.1
          have hone := EncB.one_ (w := w4) ⟨kd, pl + by_, nm, moveB by_ A, moveB by_ B⟩ hA4 hB4
          have happ := EncB.app (HE1.out.keep hall d1) hone
          refine ⟨j + 1, pre.app (.cons kd pl nm A B .nil), rr, x1 ++ [.int .i64 kd, .int .i64 ((pl + by_ : Nat) : Int), encStr nm, .slice aa A.len ca, .slice ab B.len cb], xr, f1 ++ (fa ++ fb), fr, by go_num, ?_, ?_, hcc.2.2, hcb2.2.2, hp5, ?_, HE'.out.keep hall d2, ?_, ?_, ?_, ?_⟩
          · rw [Hbp.out, Blk.app_assoc]; rfl
          · rw [Blk.len_app, ← Hjp.out]; rfl
          · rw [moveB_app]; exact happ
          · rw [Hfq.out]; simp
          · have h5 := rangeAt_only HR3.out.1 hO4 hgl3 hgB4
            rw [Int.natCast_add, List.append_assoc]
            exact h5
          · exact ⟨_, _, HR3.out.2.1.only hO4 hgB4⟩
          · refine HO.out.then hall (g :: fq) (fun i hi => .inl hi) (fun i hi => .inl ?_)
            rw [Hfq.out]
            simp only [List.mem_cons, List.mem_append] at hi ⊢
            rcases hi with h | h | h
            · exact .inl h
            · exact .inr (.inr (.inl h))
            · exact .inr (.inr (.inr (.inl h)))
        case measure => have h9 := Hbl.out; simp [intOf]; omega

theorem moveB_any (by_ : Nat) (hby : by_ ≤ 1000000) : ∀ (N : Nat) (b : Blk), cntB b < N → ∀ (w : World) (v : Value) (fp : List Nat), BlkAt w v b fp → fp.Nodup → cntB b ≤ 1000000 → PlB 1000000 1000000 b → Calls Tryd.prog 42 #[v, .int .i64 by_] w fun e w' => e = .returned (.tuple #[]) ∧ BlkAt w' v (moveB by_ b) fp ∧ Only fp w w'
  | 0, b, h => absurd h (by omega)
  | N + 1, b, h => fun w v fp hb hn hg hp => moveB_step N by_ hby (fun b' hb' => moveB_any by_ hby N b' hb') b (by omega) w v fp hb hn hg hp

end Go.Proofs.YtildkedplmjdaaaDoor
