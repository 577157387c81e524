/-
  NamesMany: twenty of a kind, two hundred statements.
-/
import Derived.Test.YtildkedplmjdaaaDoorNbC
namespace Go.Proofs.YtildkedplmjdaaaDoor
set_option maxRecDepth 100000
set_option linter.unusedVariables false
open Go.RowKit Go.Sort

theorem conv7_str (w : World) (g : Nat) (u : UInt8) (x : Int) (hx : x = (u.toNat : Int)) (hr : IsBlk w g (.cells #[.int .u8 x] 5)) : (convert 33 9 (.slice (some ⟨g, 0, none⟩) 1 1)).run Tryd.prog w = .ok (.string ⟨#[u]⟩) w := by
  have := run_convert_bytes_arg (P := Tryd.prog) w 33 5 Tryd.underlying33 Tryd.underlying5 g 0 1 1 [x] rfl (fun i hi => by
    obtain rfl : i = 0 := by omega
    exact hr.cell 0) 9 Tryd.underlying9
  rw [this]
  subst hx
  simp [strOfNums]
theorem owns_made7 {w : World} {base g n s : Nat} {cs : Array Value} {t : TypeId} (h : IsBlk w g (.cells cs t)) (hb : base ≤ g) (hm : n ≤ maxLen) (hs : cs.size = n * s) : w.ownsRow base t s (.slice (some ⟨g, 0, none⟩) n n) n cs.toList :=
  ⟨by simpa using hs, .inr ⟨g, n, cs, rfl, hb, h, Nat.le_refl _, hm, hs, by rw [← hs, ← Array.length_toList, List.take_length]⟩⟩

/-- The first function gets its body. -/
theorem body_put {w0 w : World} {vv vl vb : Value} {g n c : Nat} {vs ls : List DeclM} {nm : List UInt8} {at_ : Nat} {r : List FuncM} {b : Blk} {fp fb : List Nat}
    (h : GrowP w0 w vv vl (.slice (some ⟨g, 0, none⟩) n c) ⟨vs, ls, ⟨nm, at_, .nil⟩ :: r⟩ fp) (hb : BlkAt w vb b fb) (hn : fb.Nodup) (hg : g ∉ fb) :
    ProgAt (w.setCell ⟨g, 2, none⟩ vb) vv vl (.slice (some ⟨g, 0, none⟩) n c) ⟨vs, ls, ⟨nm, at_, b⟩ :: r⟩ := by
  obtain ⟨h1, h2, ⟨xs, h3, h4⟩, h5, h6, h7, h8, h9⟩ := h
  have hO : Only [g] w (w.setCell ⟨g, 2, none⟩ vb) := (Only.refl [g] w).setCell (p := ⟨g, 2, none⟩) (.inl (by simp)) _
  have hgf : g ∉ fp := h9 g rfl
  have a1 := owns_decls (owns_off h1 hO (fun k hk hm => by simp only [List.mem_singleton] at hm; subst hm; exact apart_type h1 h3 (by decide) k hk rfl))
  have a2 := owns_decls (owns_off h2 hO (fun k hk hm => by simp only [List.mem_singleton] at hm; subst hm; exact apart_type h2 h3 (by decide) k hk rfl))
  refine ⟨a1, a2, ?_⟩
  obtain ⟨va, fa, fr, xr, rfl, rfl, -, -, hE⟩ := h4
  have hcell := fun j x hx => World.ownsRow.cells h3 (g := g) rfl j x hx
  have h33 := h3
  rcases h33.2 with ⟨hx, h0⟩ | ⟨g', cap, cur, hx, hb', hh, hc, -⟩
  · cases hx
  · injection hx with e1 e2 e3
    injection e1 with e1
    injection e1 with e1
    subst e1
    subst e3
    have hB : IsBlk w g (.cells cur 30) := hh
    have hB' := IsBlk.put hB 2 vb
    have hn' : n = (r.length + 1) := e2
    subst hn'
    refine ⟨_, c, rfl, hc, fun _ => ⟨g, encStr nm :: .int .i64 at_ :: vb :: xr, fb ++ fr, rfl, hB'.lt, fun j x hj => ?_, ⟨vb, fb, fr, xr, rfl, rfl, hb.keep hO (fun k hk hm => hg (List.mem_singleton.1 hm ▸ hk)), hn, hE.keep hO (fun k hk hm => hgf (List.mem_singleton.1 hm ▸ List.mem_append_right _ hk))⟩⟩⟩
    rw [Nat.zero_add, hB'.cell]
    by_cases h2' : j = 2
    · subst h2'
      simp only [List.getElem?_cons_succ, List.getElem?_cons_zero, Option.some.injEq] at hj
      subst hj
      have hlt : 2 < cur.size := by
        rcases Nat.lt_or_ge 2 cur.size with h | h
        · exact h
        · have := hcell 2 va (by simp)
          rw [Addr.add_mid, hB.cell, Array.getElem?_eq_none (by simpa using h)] at this
          cases this
      simp [hlt]
    · rw [Array.getElem?_setIfInBounds_ne (fun e => h2' e.symm)]
      have := hcell j x (by
        match j, h2', hj with
        | 0, _, hj => exact hj
        | 1, _, hj => exact hj
        | 2, h, _ => exact absurd rfl h
        | m + 3, _, hj => exact hj)
      rw [Addr.add_mid, hB.cell] at this
      simpa using this

set_option maxHeartbeats 16000000 in
theorem nmany_walk (n kind stmts : Int) (w : World) (hg : ErrT w) :
    Calls Tryd.prog 3 #[.int .i64 n, .int .i64 kind, .int .i64 stmts] w fun e w' => e = .returned (.bool true) ∧ Only [] w w' := by
  go_enter Tryd.func3, Tryd.ntmps3
  go_wp2_with fail
  refine (known7_any _ hg).mono ?_
  rintro e w0 ⟨rfl, hO0⟩
  have HO0 := Lib.hid hO0
  have HG0 := Lib.hid (hg.only hO0 (by simp))
  clear hO0 hg
  have hn6 := inM_lt n 6 (by omega)
  have hk3 := inM_lt kind 3 (by omega)
  have hs20 := inM_lt stmts 20 (by omega)
  go_wp2_with fail
  refine (within7_to w0 n 6 (by omega) (by omega)).mono ?_
  rintro e w' ⟨rfl, rfl⟩
  rw [show (6 : Int).toNat = 6 from rfl]
  obtain ⟨N, hN⟩ : ∃ N : Nat, N = 17 + inM n 6 := ⟨_, rfl⟩
  have hNi : (17 : Int) + (inM n 6 : Nat) = (N : Int) := by omega
  have hN22 : N ≤ 22 := by omega
  have hN17 : 17 ≤ N := by omega
  clear hN hn6
  have HOa := Lib.hid ((Only.refl [] w0).alloc zeroP)
  have HB := Lib.hid (IsBlk.made w0 zeroP)
  unfold zeroP at *
  go_upto_region 5 with fail
  generalize hW1 : w0.alloc (.cells #[.slice none 0 0, .slice none 0 0, .slice none 0 0] 27) = w1 at *
  clear hW1
  have hp1 := HB.out.lt
  have HOp : Hid (∀ W : World, Only [w0.heap.size] w1 W → Only [] w0 W) := Lib.hid (fun W h => HOa.out.then h [] (by simp) (by simp))
  generalize w0.heap.size = p0 at *
  have hb1 := HB.out.alloc (.cells #[.string ⟨#[109, 97, 105, 110]⟩, .int .i64 0, .slice none 0 0] 30)
  have hm1 := IsBlk.made w1 (.cells #[.string ⟨#[109, 97, 105, 110]⟩, .int .i64 0, .slice none 0 0] 30)
  have f2 := hb1.notFrozen 2
  have u0 := hb1.cell 0
  have u1 := hb1.cell 1
  have u2 := hb1.cell 2
  have hOb := (Only.refl [] w1).alloc (.cells #[.string ⟨#[109, 97, 105, 110]⟩, .int .i64 0, .slice none 0 0] 30)
  have hs1 : (w1.alloc (.cells #[.string ⟨#[109, 97, 105, 110]⟩, .int .i64 0, .slice none 0 0] 30)).heap.size = w1.heap.size + 1 := by simp
  clear hm1 hs1 hOb
  have hb2 := (IsBlk.put HB.out 2 (.slice (some ⟨w1.heap.size, 0, none⟩) 1 1)).alloc (.cells #[.string ⟨#[109, 97, 105, 110]⟩, .int .i64 0, .slice none 0 0] 30)
  have hm2 := IsBlk.made (w1.setCell ⟨p0, 2, none⟩ (.slice (some ⟨w1.heap.size, 0, none⟩) 1 1)) (.cells #[.string ⟨#[109, 97, 105, 110]⟩, .int .i64 0, .slice none 0 0] 30)
  have hO2 := ((Only.refl [p0] w1).setCell (p := ⟨p0, 2, none⟩) (.inl (by simp)) (.slice (some ⟨w1.heap.size, 0, none⟩) 1 1)).alloc (.cells #[.string ⟨#[109, 97, 105, 110]⟩, .int .i64 0, .slice none 0 0] 30)
  have hs2 : ((w1.setCell ⟨p0, 2, none⟩ (.slice (some ⟨w1.heap.size, 0, none⟩) 1 1)).alloc (.cells #[.string ⟨#[109, 97, 105, 110]⟩, .int .i64 0, .slice none 0 0] 30)).heap.size = w1.heap.size + 1 := by simp
  have hss : (w1.setCell ⟨p0, 2, none⟩ (.slice (some ⟨w1.heap.size, 0, none⟩) 1 1)).heap.size = w1.heap.size := by simp
  rw [hss] at hm2
  clear hss
  go_upto_region 6 with fail
  generalize hW2 : (w1.setCell ⟨p0, 2, none⟩ (.slice (some ⟨w1.heap.size, 0, none⟩) 1 1)).alloc (.cells #[.string ⟨#[109, 97, 105, 110]⟩, .int .i64 0, .slice none 0 0] 30) = w2 at *
  clear hW2 hb1 f2 u0 u1 u2
  have u0 := hb2.cell 0
  have f0 := (hb2.alloc (.cells #[.string ⟨#[120]⟩, .int .i64 0] 32)).notFrozen 0
  have hb3 := (IsBlk.put hb2 0 (.slice (some ⟨w1.heap.size + 1, 0, none⟩) 1 1)).alloc (.cells #[.string ⟨#[120]⟩, .int .i64 0] 32)
  have hx3 := IsBlk.made (w2.setCell ⟨p0, 0, none⟩ (.slice (some ⟨w1.heap.size + 1, 0, none⟩) 1 1)) (.cells #[.string ⟨#[120]⟩, .int .i64 0] 32)
  have hO3 := ((Only.refl [p0] w2).setCell (p := ⟨p0, 0, none⟩) (.inl (by simp)) (.slice (some ⟨w1.heap.size + 1, 0, none⟩) 1 1)).alloc (.cells #[.string ⟨#[120]⟩, .int .i64 0] 32)
  have hs3 : ((w2.setCell ⟨p0, 0, none⟩ (.slice (some ⟨w1.heap.size + 1, 0, none⟩) 1 1)).alloc (.cells #[.string ⟨#[120]⟩, .int .i64 0] 32)).heap.size = w1.heap.size + 2 := by simp [hs2]
  have hss : (w2.setCell ⟨p0, 0, none⟩ (.slice (some ⟨w1.heap.size + 1, 0, none⟩) 1 1)).heap.size = w1.heap.size + 1 := by simp [hs2]
  rw [hss] at hx3
  clear hss
  go_upto_region 7 with fail
  generalize hW3 : (w2.setCell ⟨p0, 0, none⟩ (.slice (some ⟨w1.heap.size + 1, 0, none⟩) 1 1)).alloc (.cells #[.string ⟨#[120]⟩, .int .i64 0] 32) = w3 at *
  clear hW3 f0 u0
  have hm3 := hm2.only hO3 (by simp; omega)
  have HB3 : Hid (IsBlk w3 p0 (.cells #[.slice (some ⟨w1.heap.size + 1, 0, none⟩) 1 1, .slice none 0 0, .slice (some ⟨w1.heap.size, 0, none⟩) 1 1] 27)) := Lib.hid hb3
  have HO3 : Hid (Only [p0] w1 w3) := Lib.hid (hO2.then hO3 [p0] (by simp) (by simp))
  have HG3 : Hid (GrowP w1 w3 (.slice (some ⟨w1.heap.size + 1, 0, none⟩) 1 1) (.slice none 0 0) (.slice (some ⟨w1.heap.size, 0, none⟩) 1 1) ⟨[⟨[120], 0⟩], [], [⟨mainW, 0, .nil⟩]⟩ []) := Lib.hid (by
    refine ⟨owns_made7 hx3 (by omega) (by unfold maxLen; omega) rfl, ⟨rfl, .inl ⟨rfl, rfl⟩⟩, ⟨_, owns_made7 hm3 (Nat.le_refl _) (by unfold maxLen; omega) rfl, ⟨_, [], [], [], rfl, rfl, BlkAt.nil _, List.nodup_nil, rfl, rfl⟩⟩, NewB.nil _ _, fun g h => by simp [Value.ownBlock], fun g h => by simp, fun g h => by simp [Value.ownBlock] at h, fun g h => by simp⟩)
  clear hb2 hb3 hx3 hm2 hm3 hO2 hO3 hs2 hs3
  have hN1 := hN22
  go_wp2_with fail
  refine (within7_to w3 kind 3 (by omega) (by omega)).mono ?_
  rintro e w' ⟨rfl, rfl⟩
  rw [show (3 : Int).toNat = 3 from rfl]
  generalize inM kind 3 = k at *
  have hk8 : (k : Int) < 3 := by omega
  go_wp2_with fail
  go_loopw [9] (fun iv wr => ∃ (j : Nat) (vv vl vf : Value), iv = .int .i64 ((j + 1 : Nat) : Int) ∧ j + 1 ≤ N ∧ GrowP w1 wr vv vl vf (many7 k j .nil) [] ∧ IsBlk wr p0 (.cells #[vv, vl, vf] 27) ∧ Only [p0] w1 wr) (fun iv _ => N - (intOf iv).toNat)
  case atStart => exact ⟨0, _, _, _, rfl, by omega, by
      rcases (show k = 0 ∨ k = 1 ∨ k = 2 by omega) with rfl | rfl | rfl <;> exact HG3.out, HB3.out, HO3.out⟩
  case round =>
    obtain ⟨j, vv, vl, vf, rfl, hj, hG, hB, hO⟩ := hrel
    have HGr := Lib.hid hG
    have HBr := Lib.hid hB
    have HOr := Lib.hid hO
    clear hG hB hO
    by_cases hlt : j + 1 < N
    · have hi : ((j + 1 : Nat) : Int) < (N : Int) := by omega
      have hm26 : (j + 1) % 26 < 26 := Nat.mod_lt _ (by omega)
      have hu8 : (97 + ((j : Int) + 1) % 26) = ((UInt8.ofNat (97 + (j + 1) % 26)).toNat : Int) := by
        simp; omega
      have hconv : ∀ W : World, (convert 33 9 (.slice (some ⟨W.heap.size, 0, none⟩) 1 1)).run Tryd.prog (W.alloc (.cells #[.int .u8 (97 + ((j : Int) + 1) % 26)] 5)) = .ok (.string ⟨#[UInt8.ofNat (97 + (j + 1) % 26)]⟩) (W.alloc (.cells #[.int .u8 (97 + ((j : Int) + 1) % 26)] 5)) := fun W => conv7_str _ _ _ _ hu8 (IsBlk.made W _)
      have happ : (⟨#[113]⟩ : ByteArray) ++ ⟨#[UInt8.ofNat (97 + (j + 1) % 26)]⟩ = ⟨(qn7 j).toArray⟩ := append7_list [113] [UInt8.ofNat (97 + (j + 1) % 26)]
      have hqd : qd7 (j + 1) = qd7 j ++ [⟨qn7 j, j + 1⟩] := rfl
      have Hqd := Lib.hid hqd
      have hsz1 : (⟨#[UInt8.ofNat (97 + (j + 1) % 26)]⟩ : ByteArray).size = 1 := rfl
      have hql : (qn7 j).length = 2 := rfl
      clear hqd hu8
      generalize UInt8.ofNat (97 + (j + 1) % 26) = ub at *
      clear hm26
      generalize qn7 j = qn at *
      have hOu := Lib.hid ((Only.refl [] wr).alloc (.cells #[.int .u8 (97 + ((j : Int) + 1) % 26)] 5))
      go_upto_region 12 with fail
      generalize hWu : wr.alloc (.cells #[.int .u8 (97 + ((j : Int) + 1) % 26)] 5) = wu at *
      clear hWu hconv
      have HGu := Lib.hid (HGr.out.more hOu.out)
      have HBu := Lib.hid (HBr.out.only hOu.out (by simp))
      have HOu := Lib.hid (HOr.out.then hOu.out [p0] (by simp) (by simp))
      have hsu := HOu.out.size
      clear HGr HBr HOr hOu
      have y0 := HBu.out.cell 0
      have y1 := HBu.out.cell 1
      have y2 := HBu.out.cell 2
      rcases (show k = 0 ∨ k = 1 ∨ k = 2 by omega) with rfl | rfl | rfl
      · obtain ⟨av, cv, rfl⟩ := owns_slice HGu.out.vars
        have hqb := IsBlk.made wu (.cells #[.string ⟨qn.toArray⟩, .int .i64 ((j + 1 : Nat) : Int)] 32)
        have Hq0 := Lib.hid (hqb.cell 0)
        have Hq1 := Lib.hid (hqb.cell 1)
        have hOv := Lib.hid ((Only.refl [] wu).alloc (.cells #[.string ⟨qn.toArray⟩, .int .i64 ((j + 1 : Nat) : Int)] 32))
        have HGv := Lib.hid (HGu.out.more hOv.out)
        have HBv := Lib.hid (HBu.out.only hOv.out (by simp))
        have HOv := Lib.hid (HOu.out.then hOv.out [p0] (by simp) (by simp))
        have hl : (many7 0 j .nil).vars.length ≤ 1000000 := by show (qd7 j).length + 1 ≤ _; simp [qd7_len]; omega
        have eP : many7 0 (j + 1) .nil = { many7 0 j .nil with vars := (many7 0 j .nil).vars ++ [(⟨qn, j + 1⟩ : DeclM)] } := by unfold many7; simp [Hqd.out]
        have HeP := Lib.hid eP
        clear HGu HBu hqb eP
        have elen : ((many7 0 j .nil).vars ++ [(⟨qn, j + 1⟩ : DeclM)]).length = (many7 0 j .nil).vars.length + 1 := by simp
        go_wp2_with (at_builtin; refine wpList_append_d rfl _ _ rfl w1.heap.size (.slice av (many7 0 j .nil).vars.length cv) _ rfl HGv.out.vars wu.heap.size 1 ⟨qn, j + 1⟩ rfl Hq0.out Hq1.out hl (Nat.le_trans hsu hOv.out.size) ?_; intro v' w5 hr5 hO5 hb5; rw [elen] at hr5; obtain ⟨an, cn, rfl⟩ := owns_slice hr5; replace hO5 : Only (ownL (.slice av (many7 0 j .nil).vars.length cv)) _ w5 := hO5; have hp5 : p0 ∉ ownL (.slice av (many7 0 j .nil).vars.length cv) := (fun hg => absurd (HGv.out.lt p0 (List.mem_append_left _ hg)).1 (Nat.not_le.2 hp1)); have hB5 := HBv.out.only hO5 hp5; have f5 := hB5.notFrozen 0; have c5 := hB5.cell 0; have l5 := hB5.lt)
        have hGa : GrowP w1 w5 (.slice an ((many7 0 j .nil).vars.length + 1) cn) vl vf (many7 0 (j + 1) .nil) [] := by rw [HeP.out]; exact HGv.out.vars_ (l := [⟨qn, j + 1⟩]) (by rw [elen]; exact hr5) hO5 hb5
        have hset : Only [p0] w5 (w5.setCell ⟨p0, 0, none⟩ (.slice an ((many7 0 j .nil).vars.length + 1) cn)) := (Only.refl [p0] w5).setCell (p := ⟨p0, 0, none⟩) (.inl (by simp)) _
        have hBs : IsBlk (w5.setCell ⟨p0, 0, none⟩ (.slice an ((many7 0 j .nil).vars.length + 1) cn)) p0 (.cells #[.slice an ((many7 0 j .nil).vars.length + 1) cn, vl, vf] 27) := IsBlk.put hB5 0 (.slice an ((many7 0 j .nil).vars.length + 1) cn)
        have HG6 := Lib.hid (hGa.off hset (fun i hi hm => by simp only [List.mem_singleton] at hm; have := (hGa.lt i hi).1; omega))
        have HO6 := Lib.hid ((HOv.out.then hO5 [p0] (by simp) (fun i hi => .inr ((World.ownsRow.lt HGv.out.vars i (mem_ownL.1 hi)).1))).then hset [p0] (by simp) (by simp))
        generalize hW6 : w5.setCell ⟨p0, 0, none⟩ (.slice an ((many7 0 j .nil).vars.length + 1) cn) = w6 at *
        clear hW6 hGa hset hr5 hO5 hb5 f5 c5 l5 hp5
        go_roundw
        case rel => exact ⟨j + 1, by omega, by omega, .slice an ((many7 0 j .nil).vars.length + 1) cn, vl, vf, HG6.out, hBs, HO6.out⟩
        case measure => simp [intOf]; omega
      · obtain ⟨av, cv, rfl⟩ := owns_slice HGu.out.locks
        have hqb := IsBlk.made wu (.cells #[.string ⟨qn.toArray⟩, .int .i64 ((j + 1 : Nat) : Int)] 32)
        have Hq0 := Lib.hid (hqb.cell 0)
        have Hq1 := Lib.hid (hqb.cell 1)
        have hOv := Lib.hid ((Only.refl [] wu).alloc (.cells #[.string ⟨qn.toArray⟩, .int .i64 ((j + 1 : Nat) : Int)] 32))
        have HGv := Lib.hid (HGu.out.more hOv.out)
        have HBv := Lib.hid (HBu.out.only hOv.out (by simp))
        have HOv := Lib.hid (HOu.out.then hOv.out [p0] (by simp) (by simp))
        have hl : (many7 1 j .nil).locks.length ≤ 1000000 := by show (qd7 j).length ≤ _; simp [qd7_len]; omega
        have eP : many7 1 (j + 1) .nil = { many7 1 j .nil with locks := (many7 1 j .nil).locks ++ [(⟨qn, j + 1⟩ : DeclM)] } := by unfold many7; simp [Hqd.out]
        have HeP := Lib.hid eP
        clear HGu HBu hqb eP
        have elen : ((many7 1 j .nil).locks ++ [(⟨qn, j + 1⟩ : DeclM)]).length = (many7 1 j .nil).locks.length + 1 := by simp
        go_wp2_with (at_builtin; refine wpList_append_d rfl _ _ rfl w1.heap.size (.slice av (many7 1 j .nil).locks.length cv) _ rfl HGv.out.locks wu.heap.size 1 ⟨qn, j + 1⟩ rfl Hq0.out Hq1.out hl (Nat.le_trans hsu hOv.out.size) ?_; intro v' w5 hr5 hO5 hb5; rw [elen] at hr5; obtain ⟨an, cn, rfl⟩ := owns_slice hr5; replace hO5 : Only (ownL (.slice av (many7 1 j .nil).locks.length cv)) _ w5 := hO5; have hp5 : p0 ∉ ownL (.slice av (many7 1 j .nil).locks.length cv) := (fun hg => absurd (HGv.out.lt p0 (List.mem_append_right _ (List.mem_append_left _ hg))).1 (Nat.not_le.2 hp1)); have hB5 := HBv.out.only hO5 hp5; have f5 := hB5.notFrozen 1; have c5 := hB5.cell 1; have l5 := hB5.lt)
        have hGa : GrowP w1 w5 vv (.slice an ((many7 1 j .nil).locks.length + 1) cn) vf (many7 1 (j + 1) .nil) [] := by rw [HeP.out]; exact HGv.out.locks_ (l := [⟨qn, j + 1⟩]) (by rw [elen]; exact hr5) hO5 hb5
        have hset : Only [p0] w5 (w5.setCell ⟨p0, 1, none⟩ (.slice an ((many7 1 j .nil).locks.length + 1) cn)) := (Only.refl [p0] w5).setCell (p := ⟨p0, 1, none⟩) (.inl (by simp)) _
        have hBs : IsBlk (w5.setCell ⟨p0, 1, none⟩ (.slice an ((many7 1 j .nil).locks.length + 1) cn)) p0 (.cells #[vv, .slice an ((many7 1 j .nil).locks.length + 1) cn, vf] 27) := IsBlk.put hB5 1 (.slice an ((many7 1 j .nil).locks.length + 1) cn)
        have HG6 := Lib.hid (hGa.off hset (fun i hi hm => by simp only [List.mem_singleton] at hm; have := (hGa.lt i hi).1; omega))
        have HO6 := Lib.hid ((HOv.out.then hO5 [p0] (by simp) (fun i hi => .inr ((World.ownsRow.lt HGv.out.locks i (mem_ownL.1 hi)).1))).then hset [p0] (by simp) (by simp))
        generalize hW6 : w5.setCell ⟨p0, 1, none⟩ (.slice an ((many7 1 j .nil).locks.length + 1) cn) = w6 at *
        clear hW6 hGa hset hr5 hO5 hb5 f5 c5 l5 hp5
        go_roundw
        case rel => exact ⟨j + 1, by omega, by omega, vv, .slice an ((many7 1 j .nil).locks.length + 1) cn, vf, HG6.out, hBs, HO6.out⟩
        case measure => simp [intOf]; omega
      · obtain ⟨av, cv, rfl⟩ : ∃ a c, vf = .slice a (many7 2 j .nil).funcs.length c := by obtain ⟨xs, h3, _⟩ := HGu.out.funcs; exact owns_slice h3
        have hqb := IsBlk.made wu (.cells #[.string ⟨qn.toArray⟩, .int .i64 ((j + 1 : Nat) : Int), .slice none 0 0] 30)
        have Hq0 := Lib.hid (hqb.cell 0)
        have Hq1 := Lib.hid (hqb.cell 1)
        have Hq2 := Lib.hid (hqb.cell 2)
        have hOv := Lib.hid ((Only.refl [] wu).alloc (.cells #[.string ⟨qn.toArray⟩, .int .i64 ((j + 1 : Nat) : Int), .slice none 0 0] 30))
        have HGv := Lib.hid (HGu.out.more hOv.out)
        have HBv := Lib.hid (HBu.out.only hOv.out (by simp))
        have HOv := Lib.hid (HOu.out.then hOv.out [p0] (by simp) (by simp))
        have hl : (many7 2 j .nil).funcs.length ≤ 1000000 := by show ((qd7 j).map fn7).length + 1 ≤ _; simp [qd7_len]; omega
        have eP : many7 2 (j + 1) .nil = { many7 2 j .nil with funcs := (many7 2 j .nil).funcs ++ [(⟨qn, j + 1, .nil⟩ : FuncM)] } := by unfold many7; simp [Hqd.out, fn7]
        have HeP := Lib.hid eP
        clear HGu HBu hqb eP
        have elen : ((many7 2 j .nil).funcs ++ [(⟨qn, j + 1, .nil⟩ : FuncM)]).length = (many7 2 j .nil).funcs.length + 1 := by simp
        obtain ⟨xs, hxs, hE⟩ := HGv.out.funcs
        go_wp2_with (at_builtin; refine wpList_append_fn rfl _ _ rfl w1.heap.size (.slice av (many7 2 j .nil).funcs.length cv) _ xs rfl hxs wu.heap.size 1 ⟨qn, j + 1, .nil⟩ (.slice none 0 0) [] (BlkAt.nil _) rfl Hq0.out Hq1.out Hq2.out hl (Nat.le_trans hsu hOv.out.size) ?_; intro v' w5 hr5 hO5 hb5;  obtain ⟨an, cn, rfl⟩ := owns_slice hr5; replace hO5 : Only (ownL (.slice av (many7 2 j .nil).funcs.length cv)) _ w5 := hO5; have hp5 : p0 ∉ ownL (.slice av (many7 2 j .nil).funcs.length cv) := (fun hg => absurd (HGv.out.lt p0 (List.mem_append_right _ (List.mem_append_right _ (List.mem_append_left _ hg)))).1 (Nat.not_le.2 hp1)); have hB5 := HBv.out.only hO5 hp5; have f5 := hB5.notFrozen 2; have c5 := hB5.cell 2; have l5 := hB5.lt)
        have hGa : GrowP w1 w5 vv vl (.slice an ((many7 2 j .nil).funcs.length + 1) cn) (many7 2 (j + 1) .nil) [] := by rw [HeP.out]; exact GrowP.func (d := ⟨qn, j + 1, .nil⟩) HGv.out (Nat.le_trans hsu hOv.out.size) (Only.refl [] _) (by simp) hE hr5 (BlkAt.nil _) (NewB.nil _ _) hO5 hb5
        have hset : Only [p0] w5 (w5.setCell ⟨p0, 2, none⟩ (.slice an ((many7 2 j .nil).funcs.length + 1) cn)) := (Only.refl [p0] w5).setCell (p := ⟨p0, 2, none⟩) (.inl (by simp)) _
        have hBs : IsBlk (w5.setCell ⟨p0, 2, none⟩ (.slice an ((many7 2 j .nil).funcs.length + 1) cn)) p0 (.cells #[vv, vl, .slice an ((many7 2 j .nil).funcs.length + 1) cn] 27) := IsBlk.put hB5 2 (.slice an ((many7 2 j .nil).funcs.length + 1) cn)
        have HG6 := Lib.hid (hGa.off hset (fun i hi hm => by simp only [List.mem_singleton] at hm; have := (hGa.lt i hi).1; omega))
        have HO6 := Lib.hid ((HOv.out.then hO5 [p0] (by simp) (fun i hi => .inr ((World.ownsRow.lt hxs i (mem_ownL.1 hi)).1))).then hset [p0] (by simp) (by simp))
        generalize hW6 : w5.setCell ⟨p0, 2, none⟩ (.slice an ((many7 2 j .nil).funcs.length + 1) cn) = w6 at *
        clear hW6 hGa hset hr5 hO5 hb5 f5 c5 l5 hp5
        go_roundw
        case rel => exact ⟨j + 1, by omega, by omega, vv, vl, .slice an ((many7 2 j .nil).funcs.length + 1) cn, HG6.out, hBs, HO6.out⟩
        case measure => simp [intOf]; omega
    · obtain rfl : N = j + 1 := by omega
      have hi : ¬ ((j + 1 : Nat) : Int) < ((j + 1 : Nat) : Int) := by omega
      have hj22 : j < 22 := by omega
      obtain ⟨cf, gf, rfl, hgf, hff⟩ : ∃ cf gf, vf = .slice (some ⟨gf, 0, none⟩) (many7 k j .nil).funcs.length cf ∧ w1.heap.size ≤ gf ∧ gf < wr.heap.size := by
        obtain ⟨xs, h3, _⟩ := HGr.out.funcs
        have hlt := World.ownsRow.lt h3
        rcases h3.2 with ⟨_, h0⟩ | ⟨g, cap, cur, rfl, -⟩
        · simp [many7] at h0
        · exact ⟨cap, g, rfl, hlt g rfl⟩
      obtain ⟨av, cv, rfl⟩ := owns_slice HGr.out.vars
      obtain ⟨al, cl, rfl⟩ := owns_slice HGr.out.locks
      obtain ⟨w4, hw4⟩ : ∃ w4, w4 = wr := ⟨_, rfl⟩
      subst hw4
      by_cases hk1 : k = 1
      · subst hk1
        have hc1 : (((1 : Nat) : Int) == 1) = true := rfl
        go_wp2_with fail
        refine (within7_to w4 stmts 20 (by omega) (by omega)).mono ?_
        rintro e w' ⟨rfl, rfl⟩
        rw [show (20 : Int).toNat = 20 from rfl]
        obtain ⟨M, hM⟩ : ∃ M : Nat, M = 190 + inM stmts 20 := ⟨_, rfl⟩
        have hMi : (190 : Int) + (inM stmts 20 : Nat) = (M : Int) := by omega
        have hM1 : 190 ≤ M ∧ M < 210 := by omega
        clear hM hs20
        go_wp2_with fail
        go_loopw [12, 13] (fun bv iv wz => ∃ (q : Nat) (fp : List Nat), iv = .int .i64 (q : Int) ∧ q + 1 ≤ M ∧ GrowB w4 wz bv (us7 q) fp ∧ Only [] w4 wz) (fun _ iv _ => M - (intOf iv).toNat)
        case atStart => exact ⟨0, [], rfl, by omega, GrowB.nil _ _, Only.refl _ _⟩
        case round =>
          obtain ⟨q, fp, rfl, hq, hGB, hOz⟩ := hrel
          have HGB := Lib.hid hGB
          have HOz := Lib.hid hOz
          clear hGB hOz
          by_cases hql : q + 1 < M
          · have hiq : (q : Int) < (M : Int) - 1 := by omega
            have hqb := IsBlk.made wr (.cells #[.int .i64 1, .int .i64 (q : Int), .string ⟨#[120]⟩, .slice none 0 0, .slice none 0 0] 35)
            have hOa := Lib.hid ((Only.refl [] wr).alloc (.cells #[.int .i64 1, .int .i64 (q : Int), .string ⟨#[120]⟩, .slice none 0 0, .slice none 0 0] 35))
            have Hq0 := Lib.hid (hqb.cell 0)
            have Hq1 := Lib.hid (hqb.cell 1)
            have Hq2 := Lib.hid (hqb.cell 2)
            have Hq3 := Lib.hid (hqb.cell 3)
            have Hq4 := Lib.hid (hqb.cell 4)
            have hac : (us7 q).len ≤ 1000000 := by rw [us7_len]; omega
            have hsz := HOz.out.size
            clear hqb
            go_wp2_with (at_builtin; refine wpList_append_s rfl _ _ rfl w4 wr [] u12 (us7 q) fp rfl HGB.out hOa.out (by simp) hsz wr.heap.size 1 ⟨1, q, [120], .nil, .nil⟩ (.slice none 0 0) (.slice none 0 0) [] [] rfl Hq0.out Hq1.out Hq2.out Hq3.out Hq4.out (BlkAt.nil _) (BlkAt.nil _) (NewB.nil _ _) hac ?_; intro v' w5 h5 hg5)
            go_roundw
            case rel =>
              obtain ⟨xs, o1, -⟩ := HGB.out
              exact ⟨q + 1, fp ++ ([] ++ []), by go_num, by omega, h5, (HOz.out.then hOa.out [] (by simp) (by simp)).then hg5 [] (by simp) (fun i hi => .inr (World.ownsRow.lt o1 i (mem_ownL.1 hi)).1)⟩
            case measure => simp [intOf]; omega
          · obtain rfl : M = q + 1 := by omega
            have hiq : ¬ (q : Int) < ((q + 1 : Nat) : Int) - 1 := by omega
            obtain ⟨fq, hBk, hNb⟩ := HGB.out.done
            obtain ⟨ab, cb, rfl, -⟩ := hBk.slice
            have HG7 := Lib.hid (HGr.out.more HOz.out)
            have HB7 := Lib.hid (HBr.out.only HOz.out (by simp))
            have HO7 := Lib.hid (HOr.out.then HOz.out [p0] (by simp) (by simp))
            have hsz := HOz.out.size
            obtain ⟨xs, h3, hE⟩ := HG7.out.funcs
            obtain ⟨cur, hcur⟩ : ∃ cur, IsBlk wr gf (.cells cur 30) := by
              rcases h3.2 with ⟨hx, h0⟩ | ⟨g', cap, cur, hx, hb', hh, hc, -⟩
              · cases hx
              · injection hx with e1 e2 e3
                injection e1 with e1
                injection e1 with e1
                subst e1
                exact ⟨cur, hh⟩
            obtain ⟨va, hcv⟩ : ∃ va, wr.cell? ⟨gf, 2, none⟩ = some va := by
              obtain ⟨va, fa, fr, xr, rfl, -⟩ := hE
              have := World.ownsRow.cells h3 (g := gf) rfl 2 va (by simp)
              rw [Addr.add_mid] at this
              exact ⟨va, this⟩
            have f7 := (hcur.alloc (.cells #[.int .i64 8, .int .i64 0, .string ⟨#[]⟩, .slice ab (us7 q).len cb, .slice none 0 0] 35)).notFrozen 2
            have y2 := HB7.out.cell 2
            have hff2 : gf < wr.heap.size := by omega
            have hfl : (0 : Int) < ((many7 1 j .nil).funcs.length : Int) := by
              have : (many7 1 j .nil).funcs.length = ((many7 1 j .nil).funcs.length - 1) + 1 := by simp [many7]
              omega
            have hlk := World.ownsRow.lt h3 gf rfl
            have hpg : p0 < wr.heap.size := by omega
            have hHd := HG7.out
            clear h3 hE hcur
            go_upto_region 27 with fail
            have hsa : (wr.setCell ⟨gf, 2, none⟩ (.slice (some ⟨wr.heap.size, 0, none⟩) 1 1)).alloc (.cells #[.int .i64 8, .int .i64 0, .string ⟨#[]⟩, .slice ab (us7 q).len cb, .slice none 0 0] 35) = (wr.alloc (.cells #[.int .i64 8, .int .i64 0, .string ⟨#[]⟩, .slice ab (us7 q).len cb, .slice none 0 0] 35)).setCell ⟨gf, 2, none⟩ (.slice (some ⟨wr.heap.size, 0, none⟩) 1 1) := (World.setCell_alloc_past _ _ _ _ hff2).symm
            have hst := IsBlk.made wr (.cells #[.int .i64 8, .int .i64 0, .string ⟨#[]⟩, .slice ab (us7 q).len cb, .slice none 0 0] 35)
            have hOs := (Only.refl [] wr).alloc (.cells #[.int .i64 8, .int .i64 0, .string ⟨#[]⟩, .slice ab (us7 q).len cb, .slice none 0 0] 35)
            rw [hsa]
            clear hsa f7
            generalize hW8 : wr.alloc (.cells #[.int .i64 8, .int .i64 0, .string ⟨#[]⟩, .slice ab (us7 q).len cb, .slice none 0 0] 35) = w8 at *
            clear hW8
            have hBl : BlkAt w8 (.slice (some ⟨wr.heap.size, 0, none⟩) 1 1) (lp7 q) (wr.heap.size :: fq) :=
              .inr ⟨wr.heap.size, 1, fq, _, rfl, Nat.le_refl _, Nat.succ_pos _, rfl, ⟨_, _, hst⟩, (fun i x hx => by rw [Nat.zero_add, hst.cell]; simpa [encStr] using hx), ⟨_, _, fq, [], [], [], rfl, by simp, hBk.more hOs, BlkAt.nil _, rfl, rfl⟩⟩
            have hnd : (wr.heap.size :: fq).Nodup := List.nodup_cons.2 ⟨fun hm => by have := (hNb.2 _ hm).2; omega, hNb.1⟩
            have hgn : gf ∉ wr.heap.size :: fq := fun hm => by
              rcases List.mem_cons.1 hm with h | h
              · omega
              · have := (hNb.2 _ h).1; omega
            have hHP : ProgAt (w8.setCell ⟨gf, 2, none⟩ (.slice (some ⟨wr.heap.size, 0, none⟩) 1 1)) (.slice av (many7 1 j .nil).vars.length cv) (.slice al (many7 1 j .nil).locks.length cl) (.slice (some ⟨gf, 0, none⟩) (many7 1 j .nil).funcs.length cf) (many7 1 j (lp7 q)) := body_put (hHd.more hOs) hBl hnd hgn
            have hst8 := (Only.refl [gf] w8).setCell (p := ⟨gf, 2, none⟩) (.inl (by simp)) (.slice (some ⟨wr.heap.size, 0, none⟩) 1 1)
            have hB9 := (HB7.out.only hOs (by simp)).only hst8 (by simp; omega)
            have HO9 := Lib.hid (HO0.out.plus (HOp.out _ ((HO7.out.then hOs [p0] (by simp) (by simp)).then hst8 [p0] (by simp) (by simp; omega))))
            have HG9 := Lib.hid (HG0.out.only (HOp.out _ ((HO7.out.then hOs [p0] (by simp) (by simp)).then hst8 [p0] (by simp) (by simp; omega))) (by simp))
            generalize hW9 : w8.setCell ⟨gf, 2, none⟩ (.slice (some ⟨wr.heap.size, 0, none⟩) 1 1) = w9 at *
            clear hW9 hBl hnd hgn hst hst8 hOs hBk hNb hHd y2 hcv
            have z0 := hB9.cell 0
            have z1 := hB9.cell 1
            have z2 := hB9.cell 2
            have zl := hB9.lt
            have hchk := many_check 1 j q (by omega) (by omega)
            go_wp2_with fail
            refine (check_any w9 _ _ _ (many7 1 j (lp7 q)) hHP (by rw [many_cnt]; omega) (many_short _ _ _) HG9.out).mono ?_
            rintro e w10 ⟨rfl, hO10⟩
            have HO10 := Lib.hid (HO9.out.plus hO10)
            clear hO10 hHP
            by_cases hb1 : 20 < j
            · have hr : checkM (many7 1 j (lp7 q)) = (0, 2) := by rw [hchk, if_pos (.inl (by rw [if_pos trivial]; omega))]
              rw [hr]
              have hi1 : (20 : Int) < ((j : Nat) : Int) := by omega
              go_wp2
              go_ret
              exact ⟨by simp, HO10.out⟩
            · by_cases hb2 : 200 < q + 1
              · have hr : checkM (many7 1 j (lp7 q)) = (0, 2) := by rw [hchk, if_pos (.inr hb2)]
                rw [hr]
                have hi1 : ¬ (20 : Int) < ((j : Nat) : Int) := by omega
                have hi2 : (200 : Int) < ((q + 1 : Nat) : Int) := by omega
                go_wp2
                go_ret
                exact ⟨by simp, HO10.out⟩
              · have hr : checkM (many7 1 j (lp7 q)) = (0, 0) := by rw [hchk, if_neg (by rw [if_pos trivial]; omega)]
                rw [hr]
                have hi1 : ¬ (20 : Int) < ((j : Nat) : Int) := by omega
                have hi2 : ¬ (200 : Int) < ((q + 1 : Nat) : Int) := by omega
                go_wp2
                go_ret
                exact ⟨by simp, HO10.out⟩
      · have hc1 : ((k : Nat) : Int) ≠ 1 := by omega
        have hc2 : (((k : Nat) : Int) == 1) = false := by simp; omega
        go_wp2_with fail
        refine (within7_to w4 stmts 20 (by omega) (by omega)).mono ?_
        rintro e w' ⟨rfl, rfl⟩
        rw [show (20 : Int).toNat = 20 from rfl]
        obtain ⟨M, hM⟩ : ∃ M : Nat, M = 190 + inM stmts 20 := ⟨_, rfl⟩
        have hMi : (190 : Int) + (inM stmts 20 : Nat) = (M : Int) := by omega
        have hM1 : 190 ≤ M ∧ M < 210 := by omega
        clear hM hs20
        go_wp2_with fail
        go_loopw [12, 13] (fun bv iv wz => ∃ (q : Nat) (fp : List Nat), iv = .int .i64 (q : Int) ∧ q + 1 ≤ M ∧ GrowB w4 wz bv (us7 q) fp ∧ Only [] w4 wz) (fun _ iv _ => M - (intOf iv).toNat)
        case atStart => exact ⟨0, [], rfl, by omega, GrowB.nil _ _, Only.refl _ _⟩
        case round =>
          obtain ⟨q, fp, rfl, hq, hGB, hOz⟩ := hrel
          have HGB := Lib.hid hGB
          have HOz := Lib.hid hOz
          clear hGB hOz
          by_cases hql : q + 1 < M
          · have hiq : (q : Int) < (M : Int) - 1 := by omega
            have hqb := IsBlk.made wr (.cells #[.int .i64 1, .int .i64 (q : Int), .string ⟨#[120]⟩, .slice none 0 0, .slice none 0 0] 35)
            have hOa := Lib.hid ((Only.refl [] wr).alloc (.cells #[.int .i64 1, .int .i64 (q : Int), .string ⟨#[120]⟩, .slice none 0 0, .slice none 0 0] 35))
            have Hq0 := Lib.hid (hqb.cell 0)
            have Hq1 := Lib.hid (hqb.cell 1)
            have Hq2 := Lib.hid (hqb.cell 2)
            have Hq3 := Lib.hid (hqb.cell 3)
            have Hq4 := Lib.hid (hqb.cell 4)
            have hac : (us7 q).len ≤ 1000000 := by rw [us7_len]; omega
            have hsz := HOz.out.size
            clear hqb
            go_wp2_with (at_builtin; refine wpList_append_s rfl _ _ rfl w4 wr [] u12 (us7 q) fp rfl HGB.out hOa.out (by simp) hsz wr.heap.size 1 ⟨1, q, [120], .nil, .nil⟩ (.slice none 0 0) (.slice none 0 0) [] [] rfl Hq0.out Hq1.out Hq2.out Hq3.out Hq4.out (BlkAt.nil _) (BlkAt.nil _) (NewB.nil _ _) hac ?_; intro v' w5 h5 hg5)
            go_roundw
            case rel =>
              obtain ⟨xs, o1, -⟩ := HGB.out
              exact ⟨q + 1, fp ++ ([] ++ []), by go_num, by omega, h5, (HOz.out.then hOa.out [] (by simp) (by simp)).then hg5 [] (by simp) (fun i hi => .inr (World.ownsRow.lt o1 i (mem_ownL.1 hi)).1)⟩
            case measure => simp [intOf]; omega
          · obtain rfl : M = q + 1 := by omega
            have hiq : ¬ (q : Int) < ((q + 1 : Nat) : Int) - 1 := by omega
            obtain ⟨fq, hBk, hNb⟩ := HGB.out.done
            obtain ⟨ab, cb, rfl, -⟩ := hBk.slice
            have HG7 := Lib.hid (HGr.out.more HOz.out)
            have HB7 := Lib.hid (HBr.out.only HOz.out (by simp))
            have HO7 := Lib.hid (HOr.out.then HOz.out [p0] (by simp) (by simp))
            have hsz := HOz.out.size
            obtain ⟨xs, h3, hE⟩ := HG7.out.funcs
            obtain ⟨cur, hcur⟩ : ∃ cur, IsBlk wr gf (.cells cur 30) := by
              rcases h3.2 with ⟨hx, h0⟩ | ⟨g', cap, cur, hx, hb', hh, hc, -⟩
              · cases hx
              · injection hx with e1 e2 e3
                injection e1 with e1
                injection e1 with e1
                subst e1
                exact ⟨cur, hh⟩
            obtain ⟨va, hcv⟩ : ∃ va, wr.cell? ⟨gf, 2, none⟩ = some va := by
              obtain ⟨va, fa, fr, xr, rfl, -⟩ := hE
              have := World.ownsRow.cells h3 (g := gf) rfl 2 va (by simp)
              rw [Addr.add_mid] at this
              exact ⟨va, this⟩
            have f7 := (hcur.alloc (.cells #[.int .i64 8, .int .i64 0, .string ⟨#[]⟩, .slice ab (us7 q).len cb, .slice none 0 0] 35)).notFrozen 2
            have y2 := HB7.out.cell 2
            have hff2 : gf < wr.heap.size := by omega
            have hfl : (0 : Int) < ((many7 k j .nil).funcs.length : Int) := by
              have : (many7 k j .nil).funcs.length = ((many7 k j .nil).funcs.length - 1) + 1 := by simp [many7]
              omega
            have hlk := World.ownsRow.lt h3 gf rfl
            have hpg : p0 < wr.heap.size := by omega
            have hHd := HG7.out
            clear h3 hE hcur
            go_upto_region 27 with fail
            have hsa : (wr.setCell ⟨gf, 2, none⟩ (.slice (some ⟨wr.heap.size, 0, none⟩) 1 1)).alloc (.cells #[.int .i64 8, .int .i64 0, .string ⟨#[]⟩, .slice ab (us7 q).len cb, .slice none 0 0] 35) = (wr.alloc (.cells #[.int .i64 8, .int .i64 0, .string ⟨#[]⟩, .slice ab (us7 q).len cb, .slice none 0 0] 35)).setCell ⟨gf, 2, none⟩ (.slice (some ⟨wr.heap.size, 0, none⟩) 1 1) := (World.setCell_alloc_past _ _ _ _ hff2).symm
            have hst := IsBlk.made wr (.cells #[.int .i64 8, .int .i64 0, .string ⟨#[]⟩, .slice ab (us7 q).len cb, .slice none 0 0] 35)
            have hOs := (Only.refl [] wr).alloc (.cells #[.int .i64 8, .int .i64 0, .string ⟨#[]⟩, .slice ab (us7 q).len cb, .slice none 0 0] 35)
            rw [hsa]
            clear hsa f7
            generalize hW8 : wr.alloc (.cells #[.int .i64 8, .int .i64 0, .string ⟨#[]⟩, .slice ab (us7 q).len cb, .slice none 0 0] 35) = w8 at *
            clear hW8
            have hBl : BlkAt w8 (.slice (some ⟨wr.heap.size, 0, none⟩) 1 1) (lp7 q) (wr.heap.size :: fq) :=
              .inr ⟨wr.heap.size, 1, fq, _, rfl, Nat.le_refl _, Nat.succ_pos _, rfl, ⟨_, _, hst⟩, (fun i x hx => by rw [Nat.zero_add, hst.cell]; simpa [encStr] using hx), ⟨_, _, fq, [], [], [], rfl, by simp, hBk.more hOs, BlkAt.nil _, rfl, rfl⟩⟩
            have hnd : (wr.heap.size :: fq).Nodup := List.nodup_cons.2 ⟨fun hm => by have := (hNb.2 _ hm).2; omega, hNb.1⟩
            have hgn : gf ∉ wr.heap.size :: fq := fun hm => by
              rcases List.mem_cons.1 hm with h | h
              · omega
              · have := (hNb.2 _ h).1; omega
            have hHP : ProgAt (w8.setCell ⟨gf, 2, none⟩ (.slice (some ⟨wr.heap.size, 0, none⟩) 1 1)) (.slice av (many7 k j .nil).vars.length cv) (.slice al (many7 k j .nil).locks.length cl) (.slice (some ⟨gf, 0, none⟩) (many7 k j .nil).funcs.length cf) (many7 k j (lp7 q)) := body_put (hHd.more hOs) hBl hnd hgn
            have hst8 := (Only.refl [gf] w8).setCell (p := ⟨gf, 2, none⟩) (.inl (by simp)) (.slice (some ⟨wr.heap.size, 0, none⟩) 1 1)
            have hB9 := (HB7.out.only hOs (by simp)).only hst8 (by simp; omega)
            have HO9 := Lib.hid (HO0.out.plus (HOp.out _ ((HO7.out.then hOs [p0] (by simp) (by simp)).then hst8 [p0] (by simp) (by simp; omega))))
            have HG9 := Lib.hid (HG0.out.only (HOp.out _ ((HO7.out.then hOs [p0] (by simp) (by simp)).then hst8 [p0] (by simp) (by simp; omega))) (by simp))
            generalize hW9 : w8.setCell ⟨gf, 2, none⟩ (.slice (some ⟨wr.heap.size, 0, none⟩) 1 1) = w9 at *
            clear hW9 hBl hnd hgn hst hst8 hOs hBk hNb hHd y2 hcv
            have z0 := hB9.cell 0
            have z1 := hB9.cell 1
            have z2 := hB9.cell 2
            have zl := hB9.lt
            have hchk := many_check k j q (by omega) (by omega)
            go_wp2_with fail
            refine (check_any w9 _ _ _ (many7 k j (lp7 q)) hHP (by rw [many_cnt]; omega) (many_short _ _ _) HG9.out).mono ?_
            rintro e w10 ⟨rfl, hO10⟩
            have HO10 := Lib.hid (HO9.out.plus hO10)
            clear hO10 hHP
            by_cases hb1 : 20 < (j + 1)
            · have hr : checkM (many7 k j (lp7 q)) = (0, 2) := by rw [hchk, if_pos (.inl (by rw [if_neg hk1]; omega))]
              rw [hr]
              have hi1 : (20 : Int) < (((j + 1) : Nat) : Int) := by omega
              go_wp2
              go_ret
              exact ⟨by simp, HO10.out⟩
            · by_cases hb2 : 200 < q + 1
              · have hr : checkM (many7 k j (lp7 q)) = (0, 2) := by rw [hchk, if_pos (.inr hb2)]
                rw [hr]
                have hi1 : ¬ (20 : Int) < (((j + 1) : Nat) : Int) := by omega
                have hi2 : (200 : Int) < ((q + 1 : Nat) : Int) := by omega
                go_wp2
                go_ret
                exact ⟨by simp, HO10.out⟩
              · have hr : checkM (many7 k j (lp7 q)) = (0, 0) := by rw [hchk, if_neg (by rw [if_neg hk1]; omega)]
                rw [hr]
                have hi1 : ¬ (20 : Int) < (((j + 1) : Nat) : Int) := by omega
                have hi2 : ¬ (200 : Int) < ((q + 1 : Nat) : Int) := by omega
                go_wp2
                go_ret
                exact ⟨by simp, HO10.out⟩

end Go.Proofs.YtildkedplmjdaaaDoor
