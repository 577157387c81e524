/-
  The document's own order of files is the program's; the laws' helper Make.
-/
import Derived.Test.YtgmkgpbhgoileaaGreatStN
import Derived.Test.YtgmkgpbhgoileaaGreatStab
import Derived.Sort.Walk0
namespace Go.Proofs.YtgmkgpbhgoileaaGreat
set_option maxRecDepth 100000
set_option linter.unusedVariables false
open Go.RowKit Go.Sort Go.Maps

theorem before_eq : ∀ a b : List UInt8, bytesBefore a b = decide (a < b)
  | [], [] => by simp [bytesBefore]
  | [], _ :: _ => by simp [bytesBefore]
  | _ :: _, [] => by simp [bytesBefore]
  | a :: r, b :: s => by
    have ih := before_eq r s
    rw [Bool.eq_iff_iff]
    simp only [bytesBefore, Bool.or_eq_true, Bool.and_eq_true, decide_eq_true_eq, beq_iff_eq, List.cons_lt_cons_iff, ih]
theorem insK_insS {f : FileM} : ∀ {F : List FileM}, f.1 ∉ F.map (·.1) → insK f F = insS f F
  | [], _ => rfl
  | g :: r, h => by
    simp only [List.map_cons, List.mem_cons, not_or] at h
    unfold insK insS
    rw [bytesLess_eq, before_eq, insK_insS h.2]
    by_cases h1 : g.1 < f.1
    · have h2 : ¬ f.1 < g.1 := fun h3 => List.lt_irrefl _ (List.lt_trans h1 h3)
      simp [h1, h2]
    · have h2 : f.1 < g.1 := Classical.byContradiction (fun h3 => h.1 (List.le_antisymm (List.not_lt.1 h1) (List.not_lt.1 h3)))
      simp [h1, h2]
theorem sortK_build : ∀ l : List FileM, (l.map (·.1)).Nodup → sortK l = buildF l := by
  refine snoc_cases (fun _ => rfl) (fun l f ih h => ?_)
  rw [sortK_snoc, build_snoc]
  rw [List.map_append, List.nodup_append] at h
  rw [ih h.1]
  have hn : f.1 ∉ (buildF l).map (·.1) := fun hm => by
    have := ((build_perm l h.1).map (·.1)).mem_iff.1 hm
    exact h.2.2 _ this f.1 (by simp) rfl
  rw [insK_insS hn]
  unfold putS
  rw [del_none_S hn]

/-- Numbers in a row. -/
def IntsAt (w : World) (a : Option Addr) (len : Nat) (ns : List Int) : Prop :=
  ns.length = len ∧ (0 < len → ∃ b o, a = some ⟨b, o, none⟩ ∧ b < w.heap.size ∧ ∀ (i : Nat) (n : Int), ns[i]? = some n → w.cell? ⟨b, o + i, none⟩ = some (.int .i64 n))
theorem IntsAt.more {w w' : World} {a : Option Addr} {len : Nat} {ns : List Int} (h : IntsAt w a len ns) (hO : Only [] w w') : IntsAt w' a len ns :=
  ⟨h.1, fun hp => by
    obtain ⟨b, o, rfl, hb, hc⟩ := h.2 hp
    exact ⟨b, o, rfl, Nat.lt_of_lt_of_le hb hO.size, fun i n hn => (hO.cell (p := ⟨b, _, none⟩) hb (by simp)).trans (hc i n hn)⟩⟩

def mkName (k : Int) : List UInt8 := [UInt8.ofNat (97 + (k % 5).toNat)]
def mkOne (l : List FileM) (ns : List Int) (i : Nat) : FileM := (mkName (ns.getD i i), ((l.getD i ([], [])).2).take 400)
def addM (out : List FileM) (f : FileM) : List FileM := if f.1 ∈ out.map (·.1) then out else out ++ [f]
def makeM (l : List FileM) (ns : List Int) (j : Nat) : List FileM := (List.range j).foldl (fun out i => addM out (mkOne l ns i)) []
theorem make_succ (l : List FileM) (ns : List Int) (j : Nat) : makeM l ns (j + 1) = addM (makeM l ns j) (mkOne l ns j) := by simp [makeM, List.range_succ, List.foldl_append]

set_option maxHeartbeats 8000000 in
theorem make4_any (w : World) (a : Option Addr) (len cap : Nat) (l : List FileM) (na : Option Addr) (nl nc : Nat) (ns : List Int) (h : FilesAt w a len l) (hml : len ≤ 12) (hn : IntsAt w na nl ns) (hnl : nl ≤ maxLen) (hs : ∀ f ∈ l, f.2.length ≤ 2500) :
    Calls Tryz.prog 9 #[.slice a len cap, .slice na nl nc] w fun e w' => ∃ v, e = .returned v ∧ OwnF w' w.heap.size v (makeM l ns (min len 8)) ∧ Only [] w w' := by
  unfold maxLen at hnl
  have H := Lib.hid h
  have HN := Lib.hid hn
  have Hs := Lib.hid hs
  obtain rfl := h.1
  obtain rfl := hn.1
  clear h hn hs
  go_enter Tryz.func9, Tryz.ntmps9
  go_wp2_with fail
  go_loopw [6, 5] (fun i s5 wr => ∃ j : Nat, j ≤ min l.length 8 ∧ i = .int .i64 j ∧ OwnF wr w.heap.size s5 (makeM l ns j) ∧ (makeM l ns j).length ≤ j ∧ Only [] w wr) (fun i _ _ => 8 - (intOf i).toNat)
  case atStart => exact ⟨0, by omega, rfl, ⟨rfl, .inl ⟨rfl, rfl⟩⟩, Nat.le_refl _, Only.refl _ _⟩
  case round =>
    obtain ⟨j, hj, rfl, hown, hlen, hO⟩ := hrel
    have Hown := Lib.hid hown
    have HO := Lib.hid hO
    clear hown hO
    by_cases hlt : j < l.length
    · have hlti : (j : Int) < (l.length : Int) := by omega
      by_cases h8 : j < 8
      · have h8i : (j : Int) < 8 := by omega
        obtain ⟨b, o, rfl, hb, hc⟩ := (H.out.more HO.out).2 (by omega)
        obtain ⟨-, c1⟩ := hc j _ (List.getElem?_eq_getElem hlt)
        have e1 : l.getD j ([], []) = l[j] := by simp [hlt]
        have Hone : Hid (mkOne l ns j = (mkName (ns.getD j j), l[j].2.take 400)) := Lib.hid (by unfold mkOne; rw [e1])
        clear e1
        have hft := Hs.out l[j] (List.getElem_mem hlt)
        generalize l[j] = f at *
        obtain ⟨fn, ft⟩ := f
        simp only at c1 hft Hone
        unfold encStr at c1
        clear hc
        go_upto_if 23 with fail
        go_cut [7] (fun s7 wx => ∃ kk : Int, s7 = .int .i64 kk ∧ Hid (kk = ns.getD j j) ∧ wr = wx)
        case first =>
          by_cases hjn : j < ns.length
          · have hjni : (j : Int) < (ns.length : Int) := by omega
            obtain ⟨nb, no, rfl, hnb, hnc⟩ := (HN.out.more HO.out).2 (by omega)
            have n0 := hnc j _ (List.getElem?_eq_getElem hjn)
            go_wp2_with fail
            go_meet
            exact ⟨_, rfl, Lib.hid (by rw [List.getD_eq_getElem?_getD, List.getElem?_eq_getElem hjn]; rfl), rfl⟩
          · have hjni : ¬ (j : Int) < (ns.length : Int) := by omega
            go_wp2_with fail
            go_meet
            exact ⟨_, rfl, Lib.hid (by rw [List.getD_eq_getElem?_getD, List.getElem?_eq_none (by omega)]; rfl), rfl⟩
        case rest =>
          obtain ⟨kk, rfl, hkk, rfl⟩ := hcut
          go_upto_region 8 with fail
          have k0 := Int.emod_nonneg kk (show (5 : Int) ≠ 0 by omega)
          have k5 := Int.emod_lt_of_pos kk (show (0 : Int) < 5 by omega)
          have e2 : IntKind.i64.wrap (97 + kk % 5) = 97 + kk % 5 := IntWalk.i64_in _ (by omega)
          have e3 : IntKind.u8.wrap (97 + kk % 5) = 97 + kk % 5 := IntWalk.u8_in _ (by omega)
          have hbv : bv (mkName kk) = [.int .u8 (97 + kk % 5)] := by
            have h1 : ((UInt8.ofNat (97 + (kk % 5).toNat)).toNat : Int) = 97 + kk % 5 := by
              simp; omega
            simp only [mkName, bv, List.map_cons, List.map_nil, h1]
          have hsrc1 : ∀ W : World, Src (W.alloc (.cells #[.int .u8 (97 + kk % 5)] 5)) (some ⟨W.heap.size, 0, none⟩) 1 (mkName kk) := fun W => by
            refine ⟨rfl, fun _ => ⟨W.heap.size, 0, rfl, by simp, fun i u hu => ?_⟩⟩
            rw [hbv] at hu
            match i, hu with
            | 0, hu => simp at hu; subst hu; exact (IsBlk.made W (.cells #[.int .u8 (97 + kk % 5)] 5)).cell 0
            | n + 1, hu => simp at hu
          generalize hnm : mkName kk = nm at *
          have Hnm := Lib.hid hnm
          have Hsrc1 := Lib.hid hsrc1
          have Hconv : Hid (∀ (W : World) (g : Nat), Src W (some ⟨g, 0, none⟩) 1 nm → (convert 41 9 (.slice (some ⟨g, 0, none⟩) 1 1)).run Tryz.prog W = .ok (.string ⟨nm.toArray⟩) W) := Lib.hid (fun W g h => conv_src W _ 1 1 nm h)
          obtain ⟨T, hT⟩ : ∃ T : Nat, T = min ft.length 400 := ⟨_, rfl⟩
          obtain ⟨tt, htt⟩ : ∃ tt, tt = ft.take 400 := ⟨_, rfl⟩
          have Hmin : Hid (min (ft.length : Int) 400 = (T : Int)) := Lib.hid (by omega)
          have HTl : Hid (T ≤ ft.length) := Lib.hid (by omega)
          have Htt := Lib.hid htt
          have Hext : Hid ((⟨ft.toArray⟩ : ByteArray).extract 0 T = ⟨tt.toArray⟩) := Lib.hid (by
            have e1 : ft.take T = ft.take 400 := by rw [hT, Nat.min_comm, List.take_eq_take_min, Nat.min_assoc, Nat.min_self, ← List.take_eq_take_min]
            rw [htt, ← e1]
            apply ByteArray.ext
            simp)
          have HT := Lib.hid hT
          clear hnm hbv hsrc1 htt hT
          refine wp_region_stabL (P := Tryz.prog) 21 (by kernel_rfl) (by kernel_rfl) (Only []) (Only.refl _ _) (fun _ _ _ h k => h.then k [] (by simp) (by simp))
            [SP.is (.int .i64 kk),
             SP.is (.int .i64 (kk % 5)),
             SP.is (.int .i64 (97 + kk % 5)),
             SP.is (.int .u8 (97 + kk % 5)),
             ⟨fun v W => ∃ g, v = .slice (some ⟨g, 0, none⟩) 1 1 ∧ Src W (some ⟨g, 0, none⟩) 1 nm, fun _ _ _ ⟨g, e, h⟩ hO => ⟨g, e, h.more hO⟩⟩,
             SP.is (.string ⟨nm.toArray⟩),
             SP.is (.slice (some ⟨b, o, none⟩) l.length cap),
             SP.is (.int .i64 j),
             SP.is (.pointer (some ⟨b, o + j * 2, none⟩)),
             SP.is (.pointer (some ⟨b, o + j * 2 + 1, none⟩)),
             SP.is (.string ⟨ft.toArray⟩),
             SP.is (.slice (some ⟨b, o, none⟩) l.length cap),
             SP.is (.int .i64 j),
             SP.is (.pointer (some ⟨b, o + j * 2, none⟩)),
             SP.is (.pointer (some ⟨b, o + j * 2 + 1, none⟩)),
             SP.is (.string ⟨ft.toArray⟩),
             SP.is (.int .i64 (ft.length : Nat)),
             SP.is (.int .i64 (T : Nat)),
             SP.is (.string ⟨tt.toArray⟩),
             SP.is (.agg #[.string ⟨nm.toArray⟩, .string ⟨tt.toArray⟩]),
             ⟨fun v W => ∃ g, v = .pointer (some ⟨g, 0, none⟩) ∧ IsBlk W g (.cells #[.string ⟨#[]⟩, .string ⟨#[]⟩] 40) ∧ wr.heap.size ≤ g, fun _ _ _ ⟨g, e, h, hg⟩ hO => ⟨g, e, h.only hO (by simp), hg⟩⟩] ?_ ?_
          · simp only [List.take_succ_cons, List.take_zero]
            refine StepsOK.cons ?_ (StepsOK.cons ?_ (StepsOK.cons ?_ (StepsOK.cons ?_ (StepsOK.cons ?_ (StepsOK.cons ?_ (StepsOK.cons ?_ (StepsOK.cons ?_ (StepsOK.cons ?_ (StepsOK.cons ?_ (StepsOK.cons ?_ (StepsOK.cons ?_ (StepsOK.cons ?_ (StepsOK.cons ?_ (StepsOK.cons ?_ (StepsOK.cons ?_ (StepsOK.cons ?_ (StepsOK.cons ?_ (StepsOK.cons ?_ (StepsOK.cons ?_ (StepsOK.cons ?_ StepsOK.nil))))))))))))))))))))
            · intro a W L N hR hold hφ hcl hkp hd K hK
              have e7 := hold 7 (by kernel_rfl)
              clear hold hφ hcl hkp hd
              rw [if_pos (by rfl)]
              go_simp
              exact hK _ _ (Only.refl _ _) rfl
            · intro a W L N hR hold hφ hcl hkp hd K hK
              have e28 := got hφ (hd 0 (by kernel_rfl)) rfl rfl rfl
              clear hold hφ hcl hkp hd
              rw [if_pos (by rfl)]
              go_simp
              refine (within4_nat W kk 5 (by omega) (by omega)).mono ?_
              rintro e w' ⟨rfl, rfl⟩
              exact hK _ _ (Only.refl _ _) rfl
            · intro a W L N hR hold hφ hcl hkp hd K hK
              have e29 := got hφ (hd 1 (by kernel_rfl)) rfl rfl rfl
              clear hold hφ hcl hkp hd
              rw [if_pos (by rfl)]
              go_simp
              exact hK _ _ (Only.refl _ _) rfl
            · intro a W L N hR hold hφ hcl hkp hd K hK
              have e30 := got hφ (hd 2 (by kernel_rfl)) rfl rfl rfl
              clear hold hφ hcl hkp hd
              rw [if_pos (by rfl)]
              go_simp
              exact hK _ _ (Only.refl _ _) rfl
            · intro a W L N hR hold hφ hcl hkp hd K hK
              have e31 := got hφ (hd 3 (by kernel_rfl)) rfl rfl rfl
              clear hold hφ hcl hkp hd
              rw [if_pos (by rfl)]
              go_simp
              exact hK _ _ ((Only.refl _ _).alloc _) ⟨_, rfl, Hsrc1.out W⟩
            · intro a W L N hR hold hφ hcl hkp hd K hK
              obtain ⟨u32, e32, g32, p32, s32⟩ := gotP hφ (hd 4 (by kernel_rfl)) rfl rfl rfl
              have p32 : u32 = .slice (some ⟨g32, 0, none⟩) 1 1 := p32
              subst p32
              clear hold hφ hcl hkp hd
              rw [if_pos (by rfl)]
              have hcv : (convert 41 9 (.slice (some ⟨g32, 0, none⟩) 1 1)).run Tryz.prog W = .ok (.string ⟨nm.toArray⟩) W := Hconv.out W g32 s32
              go_simp
              exact hK _ _ (Only.refl _ _) rfl
            · intro a W L N hR hold hφ hcl hkp hd K hK
              have e0 := hold 0 (by kernel_rfl)
              clear hold hφ hcl hkp hd
              rw [if_pos (by rfl)]
              go_simp
              exact hK _ _ (Only.refl _ _) rfl
            · intro a W L N hR hold hφ hcl hkp hd K hK
              have e6 := hold 6 (by kernel_rfl)
              clear hold hφ hcl hkp hd
              rw [if_pos (by rfl)]
              go_simp
              exact hK _ _ (Only.refl _ _) rfl
            · intro a W L N hR hold hφ hcl hkp hd K hK
              have e34 := got hφ (hd 6 (by kernel_rfl)) rfl rfl rfl
              have e35 := got hφ (hd 7 (by kernel_rfl)) rfl rfl rfl
              clear hold hφ hcl hkp hd
              rw [if_pos (by rfl)]
              go_simp
              exact hK _ _ (Only.refl _ _) rfl
            · intro a W L N hR hold hφ hcl hkp hd K hK
              have e36 := got hφ (hd 8 (by kernel_rfl)) rfl rfl rfl
              clear hold hφ hcl hkp hd
              rw [if_pos (by rfl)]
              go_simp
              exact hK _ _ (Only.refl _ _) rfl
            · intro a W L N hR hold hφ hcl hkp hd K hK
              have e37 := got hφ (hd 9 (by kernel_rfl)) rfl rfl rfl
              have hld : W.cell? ⟨b, o + j * 2 + 1, none⟩ = some (.string ⟨ft.toArray⟩) := ((((Only.refl [] wr).drew).plus hR).cell (p := ⟨b, _, none⟩) hb (by simp)).trans c1
              clear hold hφ hcl hkp hd
              rw [if_pos (by rfl)]
              go_simp
              exact hK _ _ (Only.refl _ _) rfl
            · intro a W L N hR hold hφ hcl hkp hd K hK
              have e0 := hold 0 (by kernel_rfl)
              clear hold hφ hcl hkp hd
              rw [if_pos (by rfl)]
              go_simp
              exact hK _ _ (Only.refl _ _) rfl
            · intro a W L N hR hold hφ hcl hkp hd K hK
              have e6 := hold 6 (by kernel_rfl)
              clear hold hφ hcl hkp hd
              rw [if_pos (by rfl)]
              go_simp
              exact hK _ _ (Only.refl _ _) rfl
            · intro a W L N hR hold hφ hcl hkp hd K hK
              have e39 := got hφ (hd 11 (by kernel_rfl)) rfl rfl rfl
              have e40 := got hφ (hd 12 (by kernel_rfl)) rfl rfl rfl
              clear hold hφ hcl hkp hd
              rw [if_pos (by rfl)]
              go_simp
              exact hK _ _ (Only.refl _ _) rfl
            · intro a W L N hR hold hφ hcl hkp hd K hK
              have e41 := got hφ (hd 13 (by kernel_rfl)) rfl rfl rfl
              clear hold hφ hcl hkp hd
              rw [if_pos (by rfl)]
              go_simp
              exact hK _ _ (Only.refl _ _) rfl
            · intro a W L N hR hold hφ hcl hkp hd K hK
              have e42 := got hφ (hd 14 (by kernel_rfl)) rfl rfl rfl
              have hld : W.cell? ⟨b, o + j * 2 + 1, none⟩ = some (.string ⟨ft.toArray⟩) := ((((Only.refl [] wr).drew).plus hR).cell (p := ⟨b, _, none⟩) hb (by simp)).trans c1
              clear hold hφ hcl hkp hd
              rw [if_pos (by rfl)]
              go_simp
              exact hK _ _ (Only.refl _ _) rfl
            · intro a W L N hR hold hφ hcl hkp hd K hK
              have e43 := got hφ (hd 15 (by kernel_rfl)) rfl rfl rfl
              clear hold hφ hcl hkp hd
              rw [if_pos (by rfl)]
              go_simp
              exact hK _ _ (Only.refl _ _) rfl
            · intro a W L N hR hold hφ hcl hkp hd K hK
              have e44 := got hφ (hd 16 (by kernel_rfl)) rfl rfl rfl
              clear hold hφ hcl hkp hd
              rw [if_pos (by rfl)]
              have hmin := Hmin.out
              go_simp
              exact hK _ _ (Only.refl _ _) rfl
            · intro a W L N hR hold hφ hcl hkp hd K hK
              have e38 := got hφ (hd 10 (by kernel_rfl)) rfl rfl rfl
              have e45 := got hφ (hd 17 (by kernel_rfl)) rfl rfl rfl
              clear hold hφ hcl hkp hd
              rw [if_pos (by rfl)]
              have hTl := HTl.out
              have hext := Hext.out
              go_simp
              exact hK _ _ (Only.refl _ _) rfl
            · intro a W L N hR hold hφ hcl hkp hd K hK
              have e33 := got hφ (hd 5 (by kernel_rfl)) rfl rfl rfl
              have e46 := got hφ (hd 18 (by kernel_rfl)) rfl rfl rfl
              clear hold hφ hcl hkp hd
              rw [if_pos (by rfl)]
              go_simp
              exact hK _ _ (Only.refl _ _) rfl
            · intro a W L N hR hold hφ hcl hkp hd K hK
              have hsz := hR.size
              clear hold hφ hcl hkp hd
              rw [if_pos (by rfl)]
              go_simp
              exact hK _ _ ((Only.refl _ _).alloc _) ⟨_, rfl, IsBlk.made W _, hsz⟩
          · intro us W hO' hus
            have p19 : us 19 = .agg #[.string ⟨nm.toArray⟩, .string ⟨tt.toArray⟩] := hus 19 _ 47 (by omega) rfl rfl
            obtain ⟨g, p20, hgb, hgs⟩ : ∃ g, us 20 = .pointer (some ⟨g, 0, none⟩) ∧ IsBlk W g (.cells #[.string ⟨#[]⟩, .string ⟨#[]⟩] 40) ∧ wr.heap.size ≤ g := hus 20 _ 8 (by omega) rfl rfl
            clear hus
            simp only [List.take_succ_cons, List.take_zero, List.drop_succ_cons, List.drop_zero, fillAct, Act.put, List.setIfInBounds_toArray, List.set_cons_zero, List.set_cons_succ, Nat.reduceAdd, p19, p20]
            have hA := (Only.refl [] wr).drew.plus hO'
            clear p19 p20
            have g0 : W.cell? ⟨g, 0, none⟩ = some (.string ⟨#[]⟩) := hgb.cell 0
            have g1 : W.cell? ⟨g, 1, none⟩ = some (.string ⟨#[]⟩) := hgb.cell 1
            have z0 := hgb.notFrozen 0
            have z1 := hgb.notFrozen 1
            have hgw := hgb.lt
            have hb1 := (hgb.put 0 (.string ⟨nm.toArray⟩)).put 1 (.string ⟨tt.toArray⟩)
            have hO1 : Only [g] W ((W.setCell ⟨g, 0, none⟩ (.string ⟨nm.toArray⟩)).setCell ⟨g, 1, none⟩ (.string ⟨tt.toArray⟩)) := ((Only.refl _ W).setCell (by simp) _).setCell (by simp) _
            have hOr : Only [] wr ((W.setCell ⟨g, 0, none⟩ (.string ⟨nm.toArray⟩)).setCell ⟨g, 1, none⟩ (.string ⟨tt.toArray⟩)) := (hA.trans hO1).into (fun i hi => .inr (by simp at hi; omega))
            obtain ⟨a5, c5, rfl, hfl, -⟩ := (Hown.out.only hOr).files
            have Hfl := Lib.hid hfl
            have HOr := Lib.hid hOr
            have Hb1 := Lib.hid hb1
            clear hfl hOr hb1 hO1 hA
            go_wp2_with fail
            clear g0 g1 z0 z1 hgb
            generalize (W.setCell ⟨g, 0, none⟩ (.string ⟨nm.toArray⟩)).setCell ⟨g, 1, none⟩ (.string ⟨tt.toArray⟩) = W2 at *
            refine (at_any _ a5 _ c5 (makeM l ns j) nm Hfl.out (by omega)).mono ?_
            rintro e w' ⟨r, rfl, hr, rfl⟩
            have Hr := Lib.hid hr
            clear hr
            have q0 : W2.cell? ⟨g, 0, none⟩ = some (.string ⟨nm.toArray⟩) := Hb1.out.cell 0
            have q1 : W2.cell? ⟨g, 1, none⟩ = some (.string ⟨tt.toArray⟩) := Hb1.out.cell 1
            have Hmk : Hid (makeM l ns (j + 1) = addM (makeM l ns j) (nm, tt)) := Lib.hid (by rw [make_succ, Hone.out, ← hkk.out, Hnm.out, Htt.out])
            by_cases hr0 : r < 0
            · have Hadd : Hid (makeM l ns (j + 1) = makeM l ns j ++ [(nm, tt)]) := Lib.hid (by rw [Hmk.out]; unfold addM; rw [if_neg (Hr.out.1 hr0)])
              have hOa := Lib.hid ((Only.refl [] W2).alloc (.cells #[.string ⟨nm.toArray⟩, .string ⟨tt.toArray⟩] 40))
              have hq := IsBlk.made W2 (.cells #[.string ⟨nm.toArray⟩, .string ⟨tt.toArray⟩] 40)
              have Hq0 := Lib.hid (hq.cell 0)
              have Hq1 := Lib.hid (hq.cell 1)
              have Howa := Lib.hid ((Hown.out.only HOr.out).only hOa.out)
              have hszj : w.heap.size ≤ (W2.alloc (.cells #[.string ⟨nm.toArray⟩, .string ⟨tt.toArray⟩] 40)).heap.size := Nat.le_trans HO.out.size (Nat.le_trans HOr.out.size hOa.out.size)
              have htl : (makeM l ns j).length ≤ 1000000 := by omega
              clear hq
              go_wp2_with (at_builtin; refine wpList_append_f rfl _ _ rfl w.heap.size _ _ rfl Howa.out W2.heap.size 1 (nm, tt) rfl Hq0.out Hq1.out htl hszj ?_; intro v' w4 h4 hg4)
              go_roundw
              case rel =>
                refine ⟨j + 1, by omega, by go_num, by rw [Hadd.out]; exact h4, by rw [Hadd.out, List.length_append]; simp; omega, onlyOwn ((HO.out.plus HOr.out).plus hOa.out) Howa.out hg4 (Nat.le_refl _)⟩
              case measure => simp [intOf]; omega
            · have Hadd : Hid (makeM l ns (j + 1) = makeM l ns j) := Lib.hid (by rw [Hmk.out]; unfold addM; rw [if_pos (Classical.byContradiction (fun h => hr0 (Hr.out.2 h)))])
              go_wp2
              go_roundw
              case rel => exact ⟨j + 1, by omega, by go_num, by rw [Hadd.out]; exact Hown.out.only HOr.out, by rw [Hadd.out]; omega, HO.out.plus HOr.out⟩
              case measure => simp [intOf]; omega
      · have h8i : ¬ (j : Int) < 8 := by omega
        go_wp2
        go_ret
        have hj8 : j = min l.length 8 := by omega
        have := Hown.out
        exact ⟨_, rfl, by rw [← hj8]; exact this, HO.out⟩
    · have hge : ¬ (j : Int) < (l.length : Int) := by omega
      go_wp2
      go_ret
      have hj8 : j = min l.length 8 := by omega
      have := Hown.out
      exact ⟨_, rfl, by rw [← hj8]; exact this, HO.out⟩

end Go.Proofs.YtgmkgpbhgoileaaGreat
