/-
  Programs of raw bodies: the laws' Prog.
-/
import Derived.Test.YtildkedplmjdaaaGreatDoorPaZ
namespace Go.Proofs.YtildkedplmjdaaaGreatDoor
set_option maxRecDepth 100000
set_option linter.unusedVariables false
open Go.RowKit Go.Sort

theorem blk_rng {w : World} {g : Nat} {cs : Array Value} {t : TypeId} (h : IsBlk w g (.cells cs t)) : w.rangeAt g 0 cs.toList := fun j x hx => by
  rw [Nat.zero_add, h.cell]
  simpa using hx
theorem decls_of {w : World} {g c : Nat} {t : TypeId} (l : List DeclM) (h : IsBlk w g (.cells (dcells l).toArray t)) (hc : l.length ≤ c) : DeclsAt w (.slice (some ⟨g, 0, none⟩) l.length c) l :=
  ⟨_, c, rfl, hc, fun _ => ⟨g, rfl, h.lt, by have := blk_rng h; simpa using this⟩⟩

theorem decls_keep {w w' : World} {S : List Nat} {g c : Nat} {t : TypeId} (l : List DeclM) (h : IsBlk w g (.cells (dcells l).toArray t)) (hc : l.length ≤ c) (hO : Only S w w') (hg : g ∉ S) : DeclsAt w' (.slice (some ⟨g, 0, none⟩) l.length c) l :=
  decls_of l (h.only hO hg) hc
theorem encF_four {w : World} {vm vf vg vh : Value} {m f g h : Blk} {fm ff fg fh : List Nat} (nm nf ng nh : List UInt8) (hm : BlkAt w vm m fm) (hf : BlkAt w vf f ff) (hg : BlkAt w vg g fg) (hh : BlkAt w vh h fh) (km : fm.Nodup) (kf : ff.Nodup) (kg : fg.Nodup) (kh : fh.Nodup) :
    EncF w [⟨nm, 0, m⟩, ⟨nf, 0, f⟩, ⟨ng, 0, g⟩, ⟨nh, 0, h⟩] [encStr nm, .int .i64 (0 : Nat), vm, encStr nf, .int .i64 (0 : Nat), vf, encStr ng, .int .i64 (0 : Nat), vg, encStr nh, .int .i64 (0 : Nat), vh] (fm ++ (ff ++ (fg ++ (fh ++ [])))) :=
  ⟨vm, fm, _, _, rfl, rfl, hm, km, vf, ff, _, _, rfl, rfl, hf, kf, vg, fg, _, _, rfl, rfl, hg, kg, vh, fh, [], [], rfl, rfl, hh, kh, rfl, rfl⟩

set_option maxHeartbeats 16000000 in
theorem prog6_any (m f g h : RawM) (t : Int) (w : World) (um uf ug uh : Value) (hm : RawAt w um m) (hf : RawAt w uf f) (hg : RawAt w ug g) (hh : RawAt w uh h) (cm : m.cnt ≤ 1000) (cf : f.cnt ≤ 1000) (cg : g.cnt ≤ 1000) (ch : h.cnt ≤ 1000) :
    Calls Tryz.prog 9 #[um, uf, ug, uh, .int .i64 t] w fun e w' => ∃ vv vl vf, e = .returned (.agg #[vv, vl, vf]) ∧ ProgAt w' vv vl vf (progR m f g h t) ∧ Only [] w w' := by
  have Hm : Hid (∀ W, Only [] w W → Calls Tryz.prog 17 #[um] W (MadeB W (blockR m))) := Lib.hid (fun W hW => blockR_any _ m (Nat.le_refl _) (by omega) W um (hm.more hW))
  have Hf : Hid (∀ W, Only [] w W → Calls Tryz.prog 17 #[uf] W (MadeB W (blockR f))) := Lib.hid (fun W hW => blockR_any _ f (Nat.le_refl _) (by omega) W uf (hf.more hW))
  have Hg : Hid (∀ W, Only [] w W → Calls Tryz.prog 17 #[ug] W (MadeB W (blockR g))) := Lib.hid (fun W hW => blockR_any _ g (Nat.le_refl _) (by omega) W ug (hg.more hW))
  have Hh : Hid (∀ W, Only [] w W → Calls Tryz.prog 17 #[uh] W (MadeB W (blockR h))) := Lib.hid (fun W hW => blockR_any _ h (Nat.le_refl _) (by omega) W uh (hh.more hW))
  obtain ⟨am, _, rfl, -⟩ := hm
  obtain ⟨af, _, rfl, -⟩ := hf
  obtain ⟨ag, _, rfl, -⟩ := hg
  obtain ⟨ah, _, rfl, -⟩ := hh
  obtain ⟨w1, hw1⟩ : ∃ x, x = (((w.alloc (.cells #[.slice none 0 0, .slice none 0 0, .slice none 0 0] 30)).alloc (.cells #[.string ⟨#[120]⟩, .int .i64 0, .string ⟨#[121]⟩, .int .i64 0, .string ⟨#[122]⟩, .int .i64 0] 59)).alloc (.cells #[.string ⟨#[108]⟩, .int .i64 0, .string ⟨#[109]⟩, .int .i64 0, .string ⟨#[110]⟩, .int .i64 0] 59)).alloc (.cells #[.slice (some ⟨w.heap.size + 1, 0, none⟩) 3 3, .slice (some ⟨w.heap.size + 1 + 1, 0, none⟩) 3 3, .slice none 0 0] 30) := ⟨_, rfl⟩
  have hO1 : Only [] w w1 := by rw [hw1]; exact ((((Only.refl [] w).alloc _).alloc _).alloc _).alloc _
  have hs1 : w1.heap.size = w.heap.size + 4 := by rw [hw1]; simp
  have b0 : IsBlk w1 w.heap.size (.cells #[.slice none 0 0, .slice none 0 0, .slice none 0 0] 30) := by rw [hw1]; exact (((IsBlk.made w _).alloc _).alloc _).alloc _
  have b1 : IsBlk w1 (w.heap.size + 1) (.cells #[.string ⟨#[120]⟩, .int .i64 0, .string ⟨#[121]⟩, .int .i64 0, .string ⟨#[122]⟩, .int .i64 0] 59) := by
    have h := ((IsBlk.made (w.alloc (.cells #[.slice none 0 0, .slice none 0 0, .slice none 0 0] 30)) (.cells #[.string ⟨#[120]⟩, .int .i64 0, .string ⟨#[121]⟩, .int .i64 0, .string ⟨#[122]⟩, .int .i64 0] 59)).alloc (.cells #[.string ⟨#[108]⟩, .int .i64 0, .string ⟨#[109]⟩, .int .i64 0, .string ⟨#[110]⟩, .int .i64 0] 59)).alloc (.cells #[.slice (some ⟨w.heap.size + 1, 0, none⟩) 3 3, .slice (some ⟨w.heap.size + 1 + 1, 0, none⟩) 3 3, .slice none 0 0] 30)
    rw [show (w.alloc (.cells #[.slice none 0 0, .slice none 0 0, .slice none 0 0] 30)).heap.size = w.heap.size + 1 from by simp] at h
    rw [hw1]; exact h
  have b2 : IsBlk w1 (w.heap.size + 1 + 1) (.cells #[.string ⟨#[108]⟩, .int .i64 0, .string ⟨#[109]⟩, .int .i64 0, .string ⟨#[110]⟩, .int .i64 0] 59) := by
    have h := (IsBlk.made ((w.alloc (.cells #[.slice none 0 0, .slice none 0 0, .slice none 0 0] 30)).alloc (.cells #[.string ⟨#[120]⟩, .int .i64 0, .string ⟨#[121]⟩, .int .i64 0, .string ⟨#[122]⟩, .int .i64 0] 59)) (.cells #[.string ⟨#[108]⟩, .int .i64 0, .string ⟨#[109]⟩, .int .i64 0, .string ⟨#[110]⟩, .int .i64 0] 59)).alloc (.cells #[.slice (some ⟨w.heap.size + 1, 0, none⟩) 3 3, .slice (some ⟨w.heap.size + 1 + 1, 0, none⟩) 3 3, .slice none 0 0] 30)
    rw [show ((w.alloc (.cells #[.slice none 0 0, .slice none 0 0, .slice none 0 0] 30)).alloc (.cells #[.string ⟨#[120]⟩, .int .i64 0, .string ⟨#[121]⟩, .int .i64 0, .string ⟨#[122]⟩, .int .i64 0] 59)).heap.size = w.heap.size + 1 + 1 from by simp] at h
    rw [hw1]; exact h
  have b3 : IsBlk w1 (w.heap.size + 1 + 1 + 1) (.cells #[.slice (some ⟨w.heap.size + 1, 0, none⟩) 3 3, .slice (some ⟨w.heap.size + 1 + 1, 0, none⟩) 3 3, .slice none 0 0] 30) := by
    have h := IsBlk.made (((w.alloc (.cells #[.slice none 0 0, .slice none 0 0, .slice none 0 0] 30)).alloc (.cells #[.string ⟨#[120]⟩, .int .i64 0, .string ⟨#[121]⟩, .int .i64 0, .string ⟨#[122]⟩, .int .i64 0] 59)).alloc (.cells #[.string ⟨#[108]⟩, .int .i64 0, .string ⟨#[109]⟩, .int .i64 0, .string ⟨#[110]⟩, .int .i64 0] 59)) (.cells #[.slice (some ⟨w.heap.size + 1, 0, none⟩) 3 3, .slice (some ⟨w.heap.size + 1 + 1, 0, none⟩) 3 3, .slice none 0 0] 30)
    rw [show (((w.alloc (.cells #[.slice none 0 0, .slice none 0 0, .slice none 0 0] 30)).alloc (.cells #[.string ⟨#[120]⟩, .int .i64 0, .string ⟨#[121]⟩, .int .i64 0, .string ⟨#[122]⟩, .int .i64 0] 59)).alloc (.cells #[.string ⟨#[108]⟩, .int .i64 0, .string ⟨#[109]⟩, .int .i64 0, .string ⟨#[110]⟩, .int .i64 0] 59)).heap.size = w.heap.size + 1 + 1 + 1 from by simp] at h
    rw [hw1]; exact h
  have HV : Hid (∀ W, Only [w.heap.size + 1 + 1 + 1, w.heap.size] w1 W → DeclsAt W (.slice (some ⟨w.heap.size + 1, 0, none⟩) 3 3) [⟨[120], 0⟩, ⟨[121], 0⟩, ⟨[122], 0⟩]) := Lib.hid (fun W hW => decls_keep [⟨[120], 0⟩, ⟨[121], 0⟩, ⟨[122], 0⟩] b1 (Nat.le_refl 3) hW (by simp <;> omega))
  have HL : Hid (∀ W, Only [w.heap.size + 1 + 1 + 1, w.heap.size] w1 W → DeclsAt W (.slice (some ⟨w.heap.size + 1 + 1, 0, none⟩) 3 3) [⟨[108], 0⟩, ⟨[109], 0⟩, ⟨[110], 0⟩]) := Lib.hid (fun W hW => decls_keep [⟨[108], 0⟩, ⟨[109], 0⟩, ⟨[110], 0⟩] b2 (Nat.le_refl 3) hW (by simp <;> omega))
  have Hb0 := Lib.hid b0
  have Hb3 := Lib.hid b3
  have HO1 := Lib.hid hO1
  clear b0 b1 b2 b3 hO1
  go_enter Tryz.func9, Tryz.ntmps9
  go_upto_region 2 with fail
  rw [← hw1]
  have hsz : w.heap.size + 1 + 1 + 1 < w1.heap.size := by omega
  clear hw1 hs1
  have hq0 : w.heap.size < w.heap.size + 1 + 1 + 1 := by omega
  have hq1 : w.heap.size + 1 < w.heap.size + 1 + 1 + 1 := by omega
  have hq2 : w.heap.size + 1 + 1 < w.heap.size + 1 + 1 + 1 := by omega
  generalize w.heap.size + 1 + 1 = q2 at *
  generalize q2 + 1 = q at *
  generalize (Value.slice (some ⟨w.heap.size + 1, 0, none⟩) 3 3) = vV at *
  go_cut [23] (fun s wx => s = .bool (decide (inM t 3 = 0)) ∧ w1 = wx)
  case first =>
    go_wp2_with fail
    refine (within6_to _ t 3 (by omega) (by omega)).mono ?_
    rintro e w' ⟨rfl, rfl⟩
    rw [show (3 : Int).toNat = 3 from rfl]
    by_cases h3 : inM t 3 = 0
    · have h3i : ((inM t 3 : Int) == 0) = true := by simp [h3]
      go_wp2_with fail
      go_meet
      exact ⟨by simp [h3], rfl⟩
    · have h3i : ((inM t 3 : Int) == 0) = false := by simp [h3]
      go_wp2_with fail
      go_meet
      exact ⟨by simp [h3], rfl⟩
  case rest =>
  obtain ⟨rfl, rfl⟩ := hcut
  go_upto_if 23 with fail
  go_cut [] (fun wx => ∃ vl, IsBlk wx q (.cells #[vV, vl, .slice none 0 0] 30) ∧ (∀ W, Only [q, w.heap.size] wx W → DeclsAt W vl (if inM t 3 = 0 then [⟨[110], 0⟩, ⟨[108], 0⟩, ⟨[109], 0⟩] else [⟨[108], 0⟩, ⟨[109], 0⟩, ⟨[110], 0⟩])) ∧ (∀ W, Only [q, w.heap.size] wx W → DeclsAt W vV [⟨[120], 0⟩, ⟨[121], 0⟩, ⟨[122], 0⟩]) ∧
    IsBlk wx w.heap.size (.cells #[.slice none 0 0, .slice none 0 0, .slice none 0 0] 30) ∧ Only [] w wx)
  case first =>
    by_cases h3 : inM t 3 = 0
    · have hde : decide (inM t 3 = 0) = true := by simp [h3]
      rw [hde]
      have d1 := Hb3.out.cell 1
      have dl := Hb3.out.lt
      have df := Hb3.out.notFrozen 1
      have Hi3 := Lib.hid h3
      clear h3 hde
      go_wp2_with fail
      go_meet
      rw [if_pos Hi3.out]
      have hS : Only [q] w1 (w1.setCell ⟨q, 1, none⟩ (.slice (some ⟨w1.heap.size, 0, none⟩) 3 3)) := (Only.refl [q] w1).setCell (p := ⟨q, 1, none⟩) (.inl (by simp)) _
      have hS2 : Only [q, w.heap.size] w1 ((w1.setCell ⟨q, 1, none⟩ (.slice (some ⟨w1.heap.size, 0, none⟩) 3 3)).alloc (.cells #[.string ⟨#[110]⟩, .int .i64 0, .string ⟨#[108]⟩, .int .i64 0, .string ⟨#[109]⟩, .int .i64 0] 59)) := (hS.into (by simp)).alloc _
      have bm := IsBlk.made (w1.setCell ⟨q, 1, none⟩ (.slice (some ⟨w1.heap.size, 0, none⟩) 3 3)) (.cells #[.string ⟨#[110]⟩, .int .i64 0, .string ⟨#[108]⟩, .int .i64 0, .string ⟨#[109]⟩, .int .i64 0] 59)
      rw [show (w1.setCell ⟨q, 1, none⟩ (.slice (some ⟨w1.heap.size, 0, none⟩) 3 3)).heap.size = w1.heap.size from by simp] at bm
      exact ⟨_, (IsBlk.put Hb3.out 1 _).alloc _, fun W hW => decls_keep [⟨[110], 0⟩, ⟨[108], 0⟩, ⟨[109], 0⟩] bm (Nat.le_refl 3) hW (by simp; omega), fun W hW => HV.out W ((hS2.trans hW).into (by simp)), (Hb0.out.only hS (by simp; omega)).alloc _, (HO1.out.then hS [] (by simp) (by simp; omega)).alloc _⟩
    · have hde : decide (inM t 3 = 0) = false := by simp [h3]
      rw [hde]
      have Hi3 := Lib.hid h3
      clear h3 hde
      go_wp2_with fail
      go_meet
      rw [if_neg Hi3.out]
      exact ⟨_, Hb3.out, HL.out, HV.out, Hb0.out, HO1.out⟩
  case rest =>
  obtain ⟨vl, hb3, hL, hVV, hb0, hO2⟩ := hcut
  generalize wc = w2 at *
  have HL2 := Lib.hid hL
  have HV2 := Lib.hid hVV
  have Hp0 := Lib.hid hb0
  have Hp3 := Lib.hid hb3
  have HO2 := Lib.hid hO2
  clear hL hVV hb0 hb3 hO2 Hb3 HL HV Hb0 HO1
  go_wp2_with fail
  refine (Hm.out _ HO2.out).mono ?_
  rintro e w3 ⟨vm, fm, rfl, hb, hn, hO⟩
  obtain ⟨bm, cm, rfl, -⟩ := hb.slice
  have HBm := Lib.hid (And.intro hb (And.intro hn hO))
  have HO3 := Lib.hid (HO2.out.plus hO)
  clear hb hn hO
  go_wp2_with fail
  refine (Hf.out _ HO3.out).mono ?_
  rintro e w4 ⟨vf, ff, rfl, hb, hn, hO⟩
  obtain ⟨bf, cf, rfl, -⟩ := hb.slice
  have HBf := Lib.hid (And.intro hb (And.intro hn hO))
  have HO4 := Lib.hid (HO3.out.plus hO)
  clear hb hn hO
  go_wp2_with fail
  refine (Hg.out _ HO4.out).mono ?_
  rintro e w5 ⟨vg, fg, rfl, hb, hn, hO⟩
  obtain ⟨bg, cg, rfl, -⟩ := hb.slice
  have HBg := Lib.hid (And.intro hb (And.intro hn hO))
  have HO5 := Lib.hid (HO4.out.plus hO)
  clear hb hn hO
  go_wp2_with fail
  refine (Hh.out _ HO5.out).mono ?_
  rintro e w6 ⟨vh, fh, rfl, hb, hn, hO⟩
  obtain ⟨bh, ch, rfl, -⟩ := hb.slice
  have HBh := Lib.hid (And.intro hb (And.intro hn hO))
  have HO6 := Lib.hid (HO5.out.plus hO)
  clear hb hn hO
  have hO26 := HBm.out.2.2.plus (HBf.out.2.2.plus (HBg.out.2.2.plus HBh.out.2.2))
  have hp3 := Hp3.out.only hO26 (by simp)
  have hp3l := hp3.lt
  have hp3c := hp3.cell 2
  have hp3f := hp3.notFrozen 2
  have Hp36 := Lib.hid hp3
  have HO26 := Lib.hid hO26
  clear hp3 hO26
  go_upto_region 5 with fail
  have hS : Only [q] w6 (w6.setCell ⟨q, 2, none⟩ (.slice (some ⟨w6.heap.size, 0, none⟩) 4 4)) := (Only.refl [q] w6).setCell (p := ⟨q, 2, none⟩) (.inl (by simp)) _
  have hS7 : Only [q] w6 ((w6.setCell ⟨q, 2, none⟩ (.slice (some ⟨w6.heap.size, 0, none⟩) 4 4)).alloc (.cells #[.string ⟨#[109, 97, 105, 110]⟩, .int .i64 0, .slice bm (blockR m).len cm, .string ⟨#[102]⟩, .int .i64 0, .slice bf (blockR f).len cf, .string ⟨#[103]⟩, .int .i64 0, .slice bg (blockR g).len cg, .string ⟨#[104]⟩, .int .i64 0, .slice bh (blockR h).len ch] 51)) := hS.alloc _
  have bF := IsBlk.made (w6.setCell ⟨q, 2, none⟩ (.slice (some ⟨w6.heap.size, 0, none⟩) 4 4)) (.cells #[.string ⟨#[109, 97, 105, 110]⟩, .int .i64 0, .slice bm (blockR m).len cm, .string ⟨#[102]⟩, .int .i64 0, .slice bf (blockR f).len cf, .string ⟨#[103]⟩, .int .i64 0, .slice bg (blockR g).len cg, .string ⟨#[104]⟩, .int .i64 0, .slice bh (blockR h).len ch] 51)
  rw [show (w6.setCell ⟨q, 2, none⟩ (.slice (some ⟨w6.heap.size, 0, none⟩) 4 4)).heap.size = w6.heap.size from by simp] at bF
  have bQ : IsBlk ((w6.setCell ⟨q, 2, none⟩ (.slice (some ⟨w6.heap.size, 0, none⟩) 4 4)).alloc (.cells #[.string ⟨#[109, 97, 105, 110]⟩, .int .i64 0, .slice bm (blockR m).len cm, .string ⟨#[102]⟩, .int .i64 0, .slice bf (blockR f).len cf, .string ⟨#[103]⟩, .int .i64 0, .slice bg (blockR g).len cg, .string ⟨#[104]⟩, .int .i64 0, .slice bh (blockR h).len ch] 51)) q (.cells #[vV, vl, .slice (some ⟨w6.heap.size, 0, none⟩) 4 4] 30) := (IsBlk.put Hp36.out 2 _).alloc _
  have hq2l := Hp3.out.lt
  have b0 := (Hp0.out.only HO26.out (by simp)).only hS7 (by simp; omega)
  have z3 := HBm.out.2.2.size
  have z4 := HBf.out.2.2.size
  have z5 := HBg.out.2.2.size
  have z6 := HBh.out.2.2.size
  have km := ((HBm.out.1.more (HBf.out.2.2.plus (HBg.out.2.2.plus HBh.out.2.2))).keep hS7 (fun k hk hm => by have := (HBm.out.2.1.2 k hk).1; simp at hm; omega))
  have kf := ((HBf.out.1.more (HBg.out.2.2.plus HBh.out.2.2)).keep hS7 (fun k hk hm => by have := (HBf.out.2.1.2 k hk).1; simp at hm; omega))
  have kg := ((HBg.out.1.more HBh.out.2.2).keep hS7 (fun k hk hm => by have := (HBg.out.2.1.2 k hk).1; simp at hm; omega))
  have kh := (HBh.out.1.keep hS7 (fun k hk hm => by have := (HBh.out.2.1.2 k hk).1; simp at hm; omega))
  have hlt : ∀ k ∈ fm ++ (ff ++ (fg ++ (fh ++ []))), k ≠ w6.heap.size ∧ k ≠ w.heap.size := fun k hk => by
    have hz := HO2.out.size
    have hz2 := Hp0.out.lt
    simp only [List.mem_append, List.not_mem_nil, or_false] at hk
    rcases hk with hk | hk | hk | hk
    · have := HBm.out.2.1.2 k hk; omega
    · have := HBf.out.2.1.2 k hk; omega
    · have := HBg.out.2.1.2 k hk; omega
    · have := HBh.out.2.1.2 k hk; omega
  have HE := Lib.hid (And.intro km (And.intro kf (And.intro kg (And.intro kh (And.intro HBm.out.2.1.1 (And.intro HBf.out.2.1.1 (And.intro HBg.out.2.1.1 HBh.out.2.1.1)))))))
  have Hlt := Lib.hid hlt
  have hOd : ∀ W, Only [q, w.heap.size, w6.heap.size] ((w6.setCell ⟨q, 2, none⟩ (.slice (some ⟨w6.heap.size, 0, none⟩) 4 4)).alloc (.cells #[.string ⟨#[109, 97, 105, 110]⟩, .int .i64 0, .slice bm (blockR m).len cm, .string ⟨#[102]⟩, .int .i64 0, .slice bf (blockR f).len cf, .string ⟨#[103]⟩, .int .i64 0, .slice bg (blockR g).len cg, .string ⟨#[104]⟩, .int .i64 0, .slice bh (blockR h).len ch] 51)) W → Only [q, w.heap.size] w2 W := fun W hW => by
    refine (((HO26.out.into (T := [q, w.heap.size]) (by simp)).trans (hS7.into (T := [q, w.heap.size]) (by simp))).trans hW).into (fun k hk => ?_)
    simp at hk ⊢
    omega
  have HD := Lib.hid (fun W (hW : Only [q, w.heap.size, w6.heap.size] ((w6.setCell ⟨q, 2, none⟩ (.slice (some ⟨w6.heap.size, 0, none⟩) 4 4)).alloc (.cells #[.string ⟨#[109, 97, 105, 110]⟩, .int .i64 0, .slice bm (blockR m).len cm, .string ⟨#[102]⟩, .int .i64 0, .slice bf (blockR f).len cf, .string ⟨#[103]⟩, .int .i64 0, .slice bg (blockR g).len cg, .string ⟨#[104]⟩, .int .i64 0, .slice bh (blockR h).len ch] 51)) W) => And.intro (HL2.out W (hOd W hW)) (HV2.out W (hOd W hW)))
  have HO7 := Lib.hid ((HO2.out.plus HO26.out).then hS7 [] (by simp) (by simp; omega))
  have hqF : q < w6.heap.size := by omega
  have hpF : w.heap.size < w6.heap.size := by have := HO2.out.size; have := Hp0.out.lt; omega
  have BF := Lib.hid bF
  have BQ := Lib.hid bQ
  have B0 := Lib.hid b0
  clear hOd hS hS7 bF bQ b0 hq2l z3 z4 z5 z6 km kf kg kh hlt hp3l hp3c hp3f Hp36 HO26 HBm HBf HBg HBh HL2 HV2 HO2 HO3 HO4 HO5 HO6 Hp0 Hp3 Hm Hf Hg Hh
  generalize ((w6.setCell ⟨q, 2, none⟩ (.slice (some ⟨w6.heap.size, 0, none⟩) 4 4)).alloc (.cells #[.string ⟨#[109, 97, 105, 110]⟩, .int .i64 0, .slice bm (blockR m).len cm, .string ⟨#[102]⟩, .int .i64 0, .slice bf (blockR f).len cf, .string ⟨#[103]⟩, .int .i64 0, .slice bg (blockR g).len cg, .string ⟨#[104]⟩, .int .i64 0, .slice bh (blockR h).len ch] 51)) = w7 at *
  generalize w6.heap.size = F at *
  go_cut [45] (fun s wx => s = .bool (decide (inM t 2 = 0)) ∧ w7 = wx)
  case first =>
    go_wp2_with fail
    refine (within6_to _ t 2 (by omega) (by omega)).mono ?_
    rintro e w' ⟨rfl, rfl⟩
    rw [show (2 : Int).toNat = 2 from rfl]
    by_cases h2 : inM t 2 = 0
    · have h2i : ((inM t 2 : Int) == 0) = true := by simp [h2]
      go_wp2_with fail
      go_meet
      exact ⟨by simp [h2], rfl⟩
    · have h2i : ((inM t 2 : Int) == 0) = false := by simp [h2]
      go_wp2_with fail
      go_meet
      exact ⟨by simp [h2], rfl⟩
  case rest =>
  obtain ⟨rfl, rfl⟩ := hcut
  go_upto_if 45 with fail
  go_cut [] (fun wx => IsBlk wx F (if inM t 2 = 0 then (.cells #[.string ⟨#[103]⟩, .int .i64 0, .slice bg (blockR g).len cg, .string ⟨#[102]⟩, .int .i64 0, .slice bf (blockR f).len cf, .string ⟨#[109, 97, 105, 110]⟩, .int .i64 0, .slice bm (blockR m).len cm, .string ⟨#[104]⟩, .int .i64 0, .slice bh (blockR h).len ch] 51) else (.cells #[.string ⟨#[109, 97, 105, 110]⟩, .int .i64 0, .slice bm (blockR m).len cm, .string ⟨#[102]⟩, .int .i64 0, .slice bf (blockR f).len cf, .string ⟨#[103]⟩, .int .i64 0, .slice bg (blockR g).len cg, .string ⟨#[104]⟩, .int .i64 0, .slice bh (blockR h).len ch] 51)) ∧ Only [F] w7 wx)
  case first =>
    by_cases h2 : inM t 2 = 0
    · have hde : decide (inM t 2 = 0) = true := by simp [h2]
      rw [hde]
      have q2 := BQ.out.cell 2
      have ql := BQ.out.lt
      have f0 := BF.out.cell 0
      have f1 := BF.out.cell 1
      have f2 := BF.out.cell 2
      have f6 := BF.out.cell 6
      have f7 := BF.out.cell 7
      have f8 := BF.out.cell 8
      have fl := BF.out.lt
      have n0 := BF.out.notFrozen 0
      have n1 := BF.out.notFrozen 1
      have n2 := BF.out.notFrozen 2
      have n6 := BF.out.notFrozen 6
      have n7 := BF.out.notFrozen 7
      have n8 := BF.out.notFrozen 8
      have Hi2 := Lib.hid h2
      clear h2 hde
      go_upto_region 6 with fail
      go_region
      go_wp2_with fail
      go_meet
      rw [if_pos Hi2.out]
      have hS1 := (((((((Only.refl [F] w7).setCell (p := ⟨F, 0, none⟩) (.inl (by simp)) (.string ⟨#[103]⟩)).setCell (p := ⟨F, 1, none⟩) (.inl (by simp)) (.int .i64 0)).setCell (p := ⟨F, 2, none⟩) (.inl (by simp)) (.slice bg (blockR g).len cg)).setCell (p := ⟨F, 6, none⟩) (.inl (by simp)) (.string ⟨#[109, 97, 105, 110]⟩)).setCell (p := ⟨F, 7, none⟩) (.inl (by simp)) (.int .i64 0)).setCell (p := ⟨F, 8, none⟩) (.inl (by simp)) (.slice bm (blockR m).len cm)).drew
      exact ⟨(IsBlk.put (IsBlk.put (IsBlk.put (IsBlk.put (IsBlk.put (IsBlk.put BF.out 0 _) 1 _) 2 _) 6 _) 7 _) 8 _).only (Only.refl [] _).drew (by simp), hS1⟩
    · have hde : decide (inM t 2 = 0) = false := by simp [h2]
      rw [hde]
      have Hi2 := Lib.hid h2
      clear h2 hde
      go_wp2_with fail
      go_meet
      rw [if_neg Hi2.out]
      exact ⟨BF.out, Only.refl _ _⟩
  case rest =>
  obtain ⟨hF8, hO8⟩ := hcut
  generalize wc = w8 at *
  obtain ⟨⟨al, cl, hvl, -⟩, ⟨av, cv, hvv, -⟩⟩ := HD.out w7 (Only.refl _ _)
  subst hvl hvv
  have b3 := BQ.out.only hO8 (by simp; omega)
  have b0 := B0.out.only hO8 (by simp; omega)
  have p0 := b3.cell 0
  have p1 := b3.cell 1
  have p2 := b3.cell 2
  have pl := b3.lt
  have r0 := b0.cell 0
  have r1 := b0.cell 1
  have r2 := b0.cell 2
  have rl := b0.lt
  have m0 := b0.notFrozen 0
  have m1 := b0.notFrozen 1
  have m2 := b0.notFrozen 2
  have HF8 := Lib.hid hF8
  have HO8 := Lib.hid hO8
  clear hF8 hO8 b3 b0
  generalize hLL : (if inM t 3 = 0 then [⟨[110], 0⟩, ⟨[108], 0⟩, ⟨[109], 0⟩] else [⟨[108], 0⟩, ⟨[109], 0⟩, ⟨[110], 0⟩] : List DeclM) = LL at *
  have HLL := Lib.hid hLL
  clear hLL
  have HB08 := Lib.hid (B0.out.only HO8.out (by simp; omega))
  go_wp2_with fail
  (try simp only [Exit.inBlock, Exit.then])
  refine bodyPost_ret_by (ret_prog rfl _ _ w.heap.size _ rfl (three_world HB08.out _ _ _).1 rfl) rfl ?_
  have hS9 : Only [w.heap.size] w8 (((w8.setCell ⟨w.heap.size, 0, none⟩ (.slice av 3 cv)).setCell ⟨w.heap.size, 1, none⟩ (.slice al LL.length cl)).setCell ⟨w.heap.size, 2, none⟩ (.slice (some ⟨F, 0, none⟩) 4 4)) :=
    (((Only.refl [w.heap.size] w8).setCell (p := ⟨w.heap.size, 0, none⟩) (.inl (by simp)) _).setCell (p := ⟨w.heap.size, 1, none⟩) (.inl (by simp)) _).setCell (p := ⟨w.heap.size, 2, none⟩) (.inl (by simp)) _
  obtain ⟨hDl, hDv⟩ := HD.out _ (((HO8.out.into (T := [q, w.heap.size, F]) (by simp)).trans (hS9.into (T := [q, w.heap.size, F]) (by simp))).into (by simp))
  have hF9 := HF8.out.only hS9 (by simp; omega)
  obtain ⟨km, kf, kg, kh, nm, nf, ng, nh⟩ := HE.out
  have ks := fun k hk => (Hlt.out k hk)
  have km := (km.keep HO8.out (fun k hk hm => (ks k (by simp [hk])).1 (by simpa using hm))).keep hS9 (fun k hk hm => (ks k (by simp [hk])).2 (by simpa using hm))
  have kf := (kf.keep HO8.out (fun k hk hm => (ks k (by simp [hk])).1 (by simpa using hm))).keep hS9 (fun k hk hm => (ks k (by simp [hk])).2 (by simpa using hm))
  have kg := (kg.keep HO8.out (fun k hk hm => (ks k (by simp [hk])).1 (by simpa using hm))).keep hS9 (fun k hk hm => (ks k (by simp [hk])).2 (by simpa using hm))
  have kh := (kh.keep HO8.out (fun k hk hm => (ks k (by simp [hk])).1 (by simpa using hm))).keep hS9 (fun k hk hm => (ks k (by simp [hk])).2 (by simpa using hm))
  refine ⟨_, _, _, rfl, ⟨hDv, by rw [show (progR m f g h t).locks = LL from HLL.out]; exact hDl, ?_⟩, (HO7.out.then HO8.out [] (by simp) (by simp; omega)).then hS9 [] (by simp) (by simp)⟩
  by_cases h2 : inM t 2 = 0
  · rw [if_pos h2] at hF9
    have hrg := blk_rng hF9
    unfold progR
    simp only
    rw [if_pos h2]
    exact ⟨_, 4, rfl, Nat.le_refl 4, fun _ => ⟨F, _, _, rfl, hF9.lt, hrg, encF_four [103] [102] mainW [104] kg kf km kh ng nf nm nh⟩⟩
  · rw [if_neg h2] at hF9
    have hrg := blk_rng hF9
    unfold progR
    simp only
    rw [if_neg h2]
    exact ⟨_, 4, rfl, Nat.le_refl 4, fun _ => ⟨F, _, _, rfl, hF9.lt, hrg, encF_four mainW [102] [103] [104] km kf kg kh nm nf ng nh⟩⟩

end Go.Proofs.YtildkedplmjdaaaGreatDoor
