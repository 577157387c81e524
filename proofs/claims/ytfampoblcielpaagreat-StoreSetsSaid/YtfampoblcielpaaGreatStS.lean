/-
  The walk of the law StoreOrder: it returns true, whatever its arguments are, and turns nothing that was there.
-/
import Derived.Test.YtfampoblcielpaaGreatStN
import Derived.Test.YtfampoblcielpaaGreatStab
import Derived.Sort.Walk0
import Derived.Deep.Slices
import Derived.Deep.Fields
namespace Go.Proofs.YtfampoblcielpaaGreat
set_option maxRecDepth 100000
set_option linter.unusedVariables false
open Go.RowKit Go.Sort Go.Maps

theorem before_eq : ∀ a b : List UInt8, bytesBefore a b = decide (a < b)
  | [], [] => by simp [bytesBefore]
  | [], _ :: _ => by simp [bytesBefore]
  | _ :: _, [] => by simp [bytesBefore]
  | a :: r, b :: s => by
    have ih := before_eq r s
    rw [Bool.eq_iff_iff]
    simp only [bytesBefore, Bool.or_eq_true, Bool.and_eq_true, decide_eq_true_eq, beq_iff_eq, List.cons_lt_cons_iff, ih]
theorem insK_insS {f : FileM} : ∀ {F : List FileM}, f.1 ∉ F.map (·.1) → insK f F = insS f F
  | [], _ => rfl
  | g :: r, h => by
    simp only [List.map_cons, List.mem_cons, not_or] at h
    unfold insK insS
    rw [bytesLess_eq, before_eq, insK_insS h.2]
    by_cases h1 : g.1 < f.1
    · have h2 : ¬ f.1 < g.1 := fun h3 => List.lt_irrefl _ (List.lt_trans h1 h3)
      simp [h1, h2]
    · have h2 : f.1 < g.1 := Classical.byContradiction (fun h3 => h.1 (List.le_antisymm (List.not_lt.1 h1) (List.not_lt.1 h3)))
      simp [h1, h2]
theorem sortK_build : ∀ l : List FileM, (l.map (·.1)).Nodup → sortK l = buildF l := by
  refine snoc_cases (fun _ => rfl) (fun l f ih h => ?_)
  rw [sortK_snoc, build_snoc]
  rw [List.map_append, List.nodup_append] at h
  rw [ih h.1]
  have hn : f.1 ∉ (buildF l).map (·.1) := fun hm => by
    have := ((build_perm l h.1).map (·.1)).mem_iff.1 hm
    exact h.2.2 _ this f.1 (by simp) rfl
  rw [insK_insS hn]
  unfold putS
  rw [del_none_S hn]

/-- Numbers in a row. -/
def IntsAt (w : World) (a : Option Addr) (len : Nat) (ns : List Int) : Prop :=
  ns.length = len ∧ (0 < len → ∃ b o, a = some ⟨b, o, none⟩ ∧ b < w.heap.size ∧ ∀ (i : Nat) (n : Int), ns[i]? = some n → w.cell? ⟨b, o + i, none⟩ = some (.int .i64 n))
theorem IntsAt.more {w w' : World} {a : Option Addr} {len : Nat} {ns : List Int} (h : IntsAt w a len ns) (hO : Only [] w w') : IntsAt w' a len ns :=
  ⟨h.1, fun hp => by
    obtain ⟨b, o, rfl, hb, hc⟩ := h.2 hp
    exact ⟨b, o, rfl, Nat.lt_of_lt_of_le hb hO.size, fun i n hn => (hO.cell (p := ⟨b, _, none⟩) hb (by simp)).trans (hc i n hn)⟩⟩

def mkName (k : Int) : List UInt8 := [UInt8.ofNat (97 + (k % 5).toNat)]
def mkOne (l : List FileM) (ns : List Int) (i : Nat) : FileM := (mkName (ns.getD i i), ((l.getD i ([], [])).2).take 400)
def addM (out : List FileM) (f : FileM) : List FileM := if f.1 ∈ out.map (·.1) then out else out ++ [f]
def makeM (l : List FileM) (ns : List Int) (j : Nat) : List FileM := (List.range j).foldl (fun out i => addM out (mkOne l ns i)) []
theorem make_succ (l : List FileM) (ns : List Int) (j : Nat) : makeM l ns (j + 1) = addM (makeM l ns j) (mkOne l ns j) := by simp [makeM, List.range_succ, List.foldl_append]

set_option maxHeartbeats 8000000 in
theorem make4_any (w : World) (a : Option Addr) (len cap : Nat) (l : List FileM) (na : Option Addr) (nl nc : Nat) (ns : List Int) (h : FilesAt w a len l) (hml : len ≤ 12) (hn : IntsAt w na nl ns) (hnl : nl ≤ maxLen) (hs : ∀ f ∈ l, f.2.length ≤ 2500) :
    Calls Tryz.prog 9 #[.slice a len cap, .slice na nl nc] w fun e w' => ∃ v, e = .returned v ∧ OwnF w' w.heap.size v (makeM l ns (min len 8)) ∧ Only [] w w' := by
  unfold maxLen at hnl
  have H := Lib.hid h
  have HN := Lib.hid hn
  have Hs := Lib.hid hs
  obtain rfl := h.1
  obtain rfl := hn.1
  clear h hn hs
  go_enter Tryz.func9, Tryz.ntmps9
  go_wp2_with fail
  go_loopw [6, 5] (fun i s5 wr => ∃ j : Nat, j ≤ min l.length 8 ∧ i = .int .i64 j ∧ OwnF wr w.heap.size s5 (makeM l ns j) ∧ (makeM l ns j).length ≤ j ∧ Only [] w wr) (fun i _ _ => 8 - (intOf i).toNat)
  case atStart => exact ⟨0, by omega, rfl, ⟨rfl, .inl ⟨rfl, rfl⟩⟩, Nat.le_refl _, Only.refl _ _⟩
  case round =>
    obtain ⟨j, hj, rfl, hown, hlen, hO⟩ := hrel
    have Hown := Lib.hid hown
    have HO := Lib.hid hO
    clear hown hO
    by_cases hlt : j < l.length
    · have hlti : (j : Int) < (l.length : Int) := by omega
      by_cases h8 : j < 8
      · have h8i : (j : Int) < 8 := by omega
        obtain ⟨b, o, rfl, hb, hc⟩ := (H.out.more HO.out).2 (by omega)
        obtain ⟨-, c1⟩ := hc j _ (List.getElem?_eq_getElem hlt)
        have e1 : l.getD j ([], []) = l[j] := by simp [hlt]
        have Hone : Hid (mkOne l ns j = (mkName (ns.getD j j), l[j].2.take 400)) := Lib.hid (by unfold mkOne; rw [e1])
        clear e1
        have hft := Hs.out l[j] (List.getElem_mem hlt)
        generalize l[j] = f at *
        obtain ⟨fn, ft⟩ := f
        simp only at c1 hft Hone
        unfold encStr at c1
        clear hc
        go_upto_if 23 with fail
        go_cut [7] (fun s7 wx => ∃ kk : Int, s7 = .int .i64 kk ∧ Hid (kk = ns.getD j j) ∧ wr = wx)
        case first =>
          by_cases hjn : j < ns.length
          · have hjni : (j : Int) < (ns.length : Int) := by omega
            obtain ⟨nb, no, rfl, hnb, hnc⟩ := (HN.out.more HO.out).2 (by omega)
            have n0 := hnc j _ (List.getElem?_eq_getElem hjn)
            go_wp2_with fail
            go_meet
            exact ⟨_, rfl, Lib.hid (by rw [List.getD_eq_getElem?_getD, List.getElem?_eq_getElem hjn]; rfl), rfl⟩
          · have hjni : ¬ (j : Int) < (ns.length : Int) := by omega
            go_wp2_with fail
            go_meet
            exact ⟨_, rfl, Lib.hid (by rw [List.getD_eq_getElem?_getD, List.getElem?_eq_none (by omega)]; rfl), rfl⟩
        case rest =>
          obtain ⟨kk, rfl, hkk, rfl⟩ := hcut
          go_upto_region 8 with fail
          have k0 := Int.emod_nonneg kk (show (5 : Int) ≠ 0 by omega)
          have k5 := Int.emod_lt_of_pos kk (show (0 : Int) < 5 by omega)
          have e2 : IntKind.i64.wrap (97 + kk % 5) = 97 + kk % 5 := IntWalk.i64_in _ (by omega)
          have e3 : IntKind.u8.wrap (97 + kk % 5) = 97 + kk % 5 := IntWalk.u8_in _ (by omega)
          have hbv : bv (mkName kk) = [.int .u8 (97 + kk % 5)] := by
            have h1 : ((UInt8.ofNat (97 + (kk % 5).toNat)).toNat : Int) = 97 + kk % 5 := by
              simp; omega
            simp only [mkName, bv, List.map_cons, List.map_nil, h1]
          have hsrc1 : ∀ W : World, Src (W.alloc (.cells #[.int .u8 (97 + kk % 5)] 5)) (some ⟨W.heap.size, 0, none⟩) 1 (mkName kk) := fun W => by
            refine ⟨rfl, fun _ => ⟨W.heap.size, 0, rfl, by simp, fun i u hu => ?_⟩⟩
            rw [hbv] at hu
            match i, hu with
            | 0, hu => simp at hu; subst hu; exact (IsBlk.made W (.cells #[.int .u8 (97 + kk % 5)] 5)).cell 0
            | n + 1, hu => simp at hu
          generalize hnm : mkName kk = nm at *
          have Hnm := Lib.hid hnm
          have Hsrc1 := Lib.hid hsrc1
          have Hconv : Hid (∀ (W : World) (g : Nat), Src W (some ⟨g, 0, none⟩) 1 nm → (convert 37 9 (.slice (some ⟨g, 0, none⟩) 1 1)).run Tryz.prog W = .ok (.string ⟨nm.toArray⟩) W) := Lib.hid (fun W g h => conv_src W _ 1 1 nm h)
          obtain ⟨T, hT⟩ : ∃ T : Nat, T = min ft.length 400 := ⟨_, rfl⟩
          obtain ⟨tt, htt⟩ : ∃ tt, tt = ft.take 400 := ⟨_, rfl⟩
          have Hmin : Hid (min (ft.length : Int) 400 = (T : Int)) := Lib.hid (by omega)
          have HTl : Hid (T ≤ ft.length) := Lib.hid (by omega)
          have Htt := Lib.hid htt
          have Hext : Hid ((⟨ft.toArray⟩ : ByteArray).extract 0 T = ⟨tt.toArray⟩) := Lib.hid (by
            have e1 : ft.take T = ft.take 400 := by rw [hT, Nat.min_comm, List.take_eq_take_min, Nat.min_assoc, Nat.min_self, ← List.take_eq_take_min]
            rw [htt, ← e1]
            apply ByteArray.ext
            simp)
          have HT := Lib.hid hT
          clear hnm hbv hsrc1 htt hT
          refine wp_region_stabL (P := Tryz.prog) 21 (by kernel_rfl) (by kernel_rfl) (Only []) (Only.refl _ _) (fun _ _ _ h k => h.then k [] (by simp) (by simp))
            [SP.is (.int .i64 kk),
             SP.is (.int .i64 (kk % 5)),
             SP.is (.int .i64 (97 + kk % 5)),
             SP.is (.int .u8 (97 + kk % 5)),
             ⟨fun v W => ∃ g, v = .slice (some ⟨g, 0, none⟩) 1 1 ∧ Src W (some ⟨g, 0, none⟩) 1 nm, fun _ _ _ ⟨g, e, h⟩ hO => ⟨g, e, h.more hO⟩⟩,
             SP.is (.string ⟨nm.toArray⟩),
             SP.is (.slice (some ⟨b, o, none⟩) l.length cap),
             SP.is (.int .i64 j),
             SP.is (.pointer (some ⟨b, o + j * 2, none⟩)),
             SP.is (.pointer (some ⟨b, o + j * 2 + 1, none⟩)),
             SP.is (.string ⟨ft.toArray⟩),
             SP.is (.slice (some ⟨b, o, none⟩) l.length cap),
             SP.is (.int .i64 j),
             SP.is (.pointer (some ⟨b, o + j * 2, none⟩)),
             SP.is (.pointer (some ⟨b, o + j * 2 + 1, none⟩)),
             SP.is (.string ⟨ft.toArray⟩),
             SP.is (.int .i64 (ft.length : Nat)),
             SP.is (.int .i64 (T : Nat)),
             SP.is (.string ⟨tt.toArray⟩),
             SP.is (.agg #[.string ⟨nm.toArray⟩, .string ⟨tt.toArray⟩]),
             ⟨fun v W => ∃ g, v = .pointer (some ⟨g, 0, none⟩) ∧ IsBlk W g (.cells #[.string ⟨#[]⟩, .string ⟨#[]⟩] 48) ∧ wr.heap.size ≤ g, fun _ _ _ ⟨g, e, h, hg⟩ hO => ⟨g, e, h.only hO (by simp), hg⟩⟩] ?_ ?_
          · simp only [List.take_succ_cons, List.take_zero]
            refine StepsOK.cons ?_ (StepsOK.cons ?_ (StepsOK.cons ?_ (StepsOK.cons ?_ (StepsOK.cons ?_ (StepsOK.cons ?_ (StepsOK.cons ?_ (StepsOK.cons ?_ (StepsOK.cons ?_ (StepsOK.cons ?_ (StepsOK.cons ?_ (StepsOK.cons ?_ (StepsOK.cons ?_ (StepsOK.cons ?_ (StepsOK.cons ?_ (StepsOK.cons ?_ (StepsOK.cons ?_ (StepsOK.cons ?_ (StepsOK.cons ?_ (StepsOK.cons ?_ (StepsOK.cons ?_ StepsOK.nil))))))))))))))))))))
            · intro a W L N hR hold hφ hcl hkp hd K hK
              have e7 := hold 7 (by kernel_rfl)
              clear hold hφ hcl hkp hd
              rw [if_pos (by rfl)]
              go_simp
              exact hK _ _ (Only.refl _ _) rfl
            · intro a W L N hR hold hφ hcl hkp hd K hK
              have e28 := got hφ (hd 0 (by kernel_rfl)) rfl rfl rfl
              clear hold hφ hcl hkp hd
              rw [if_pos (by rfl)]
              go_simp
              refine (within4_nat W kk 5 (by omega) (by omega)).mono ?_
              rintro e w' ⟨rfl, rfl⟩
              exact hK _ _ (Only.refl _ _) rfl
            · intro a W L N hR hold hφ hcl hkp hd K hK
              have e29 := got hφ (hd 1 (by kernel_rfl)) rfl rfl rfl
              clear hold hφ hcl hkp hd
              rw [if_pos (by rfl)]
              go_simp
              exact hK _ _ (Only.refl _ _) rfl
            · intro a W L N hR hold hφ hcl hkp hd K hK
              have e30 := got hφ (hd 2 (by kernel_rfl)) rfl rfl rfl
              clear hold hφ hcl hkp hd
              rw [if_pos (by rfl)]
              go_simp
              exact hK _ _ (Only.refl _ _) rfl
            · intro a W L N hR hold hφ hcl hkp hd K hK
              have e31 := got hφ (hd 3 (by kernel_rfl)) rfl rfl rfl
              clear hold hφ hcl hkp hd
              rw [if_pos (by rfl)]
              go_simp
              exact hK _ _ ((Only.refl _ _).alloc _) ⟨_, rfl, Hsrc1.out W⟩
            · intro a W L N hR hold hφ hcl hkp hd K hK
              obtain ⟨u32, e32, g32, p32, s32⟩ := gotP hφ (hd 4 (by kernel_rfl)) rfl rfl rfl
              have p32 : u32 = .slice (some ⟨g32, 0, none⟩) 1 1 := p32
              subst p32
              clear hold hφ hcl hkp hd
              rw [if_pos (by rfl)]
              have hcv : (convert 37 9 (.slice (some ⟨g32, 0, none⟩) 1 1)).run Tryz.prog W = .ok (.string ⟨nm.toArray⟩) W := Hconv.out W g32 s32
              go_simp
              exact hK _ _ (Only.refl _ _) rfl
            · intro a W L N hR hold hφ hcl hkp hd K hK
              have e0 := hold 0 (by kernel_rfl)
              clear hold hφ hcl hkp hd
              rw [if_pos (by rfl)]
              go_simp
              exact hK _ _ (Only.refl _ _) rfl
            · intro a W L N hR hold hφ hcl hkp hd K hK
              have e6 := hold 6 (by kernel_rfl)
              clear hold hφ hcl hkp hd
              rw [if_pos (by rfl)]
              go_simp
              exact hK _ _ (Only.refl _ _) rfl
            · intro a W L N hR hold hφ hcl hkp hd K hK
              have e34 := got hφ (hd 6 (by kernel_rfl)) rfl rfl rfl
              have e35 := got hφ (hd 7 (by kernel_rfl)) rfl rfl rfl
              clear hold hφ hcl hkp hd
              rw [if_pos (by rfl)]
              go_simp
              exact hK _ _ (Only.refl _ _) rfl
            · intro a W L N hR hold hφ hcl hkp hd K hK
              have e36 := got hφ (hd 8 (by kernel_rfl)) rfl rfl rfl
              clear hold hφ hcl hkp hd
              rw [if_pos (by rfl)]
              go_simp
              exact hK _ _ (Only.refl _ _) rfl
            · intro a W L N hR hold hφ hcl hkp hd K hK
              have e37 := got hφ (hd 9 (by kernel_rfl)) rfl rfl rfl
              have hld : W.cell? ⟨b, o + j * 2 + 1, none⟩ = some (.string ⟨ft.toArray⟩) := ((((Only.refl [] wr).drew).plus hR).cell (p := ⟨b, _, none⟩) hb (by simp)).trans c1
              clear hold hφ hcl hkp hd
              rw [if_pos (by rfl)]
              go_simp
              exact hK _ _ (Only.refl _ _) rfl
            · intro a W L N hR hold hφ hcl hkp hd K hK
              have e0 := hold 0 (by kernel_rfl)
              clear hold hφ hcl hkp hd
              rw [if_pos (by rfl)]
              go_simp
              exact hK _ _ (Only.refl _ _) rfl
            · intro a W L N hR hold hφ hcl hkp hd K hK
              have e6 := hold 6 (by kernel_rfl)
              clear hold hφ hcl hkp hd
              rw [if_pos (by rfl)]
              go_simp
              exact hK _ _ (Only.refl _ _) rfl
            · intro a W L N hR hold hφ hcl hkp hd K hK
              have e39 := got hφ (hd 11 (by kernel_rfl)) rfl rfl rfl
              have e40 := got hφ (hd 12 (by kernel_rfl)) rfl rfl rfl
              clear hold hφ hcl hkp hd
              rw [if_pos (by rfl)]
              go_simp
              exact hK _ _ (Only.refl _ _) rfl
            · intro a W L N hR hold hφ hcl hkp hd K hK
              have e41 := got hφ (hd 13 (by kernel_rfl)) rfl rfl rfl
              clear hold hφ hcl hkp hd
              rw [if_pos (by rfl)]
              go_simp
              exact hK _ _ (Only.refl _ _) rfl
            · intro a W L N hR hold hφ hcl hkp hd K hK
              have e42 := got hφ (hd 14 (by kernel_rfl)) rfl rfl rfl
              have hld : W.cell? ⟨b, o + j * 2 + 1, none⟩ = some (.string ⟨ft.toArray⟩) := ((((Only.refl [] wr).drew).plus hR).cell (p := ⟨b, _, none⟩) hb (by simp)).trans c1
              clear hold hφ hcl hkp hd
              rw [if_pos (by rfl)]
              go_simp
              exact hK _ _ (Only.refl _ _) rfl
            · intro a W L N hR hold hφ hcl hkp hd K hK
              have e43 := got hφ (hd 15 (by kernel_rfl)) rfl rfl rfl
              clear hold hφ hcl hkp hd
              rw [if_pos (by rfl)]
              go_simp
              exact hK _ _ (Only.refl _ _) rfl
            · intro a W L N hR hold hφ hcl hkp hd K hK
              have e44 := got hφ (hd 16 (by kernel_rfl)) rfl rfl rfl
              clear hold hφ hcl hkp hd
              rw [if_pos (by rfl)]
              have hmin := Hmin.out
              go_simp
              exact hK _ _ (Only.refl _ _) rfl
            · intro a W L N hR hold hφ hcl hkp hd K hK
              have e38 := got hφ (hd 10 (by kernel_rfl)) rfl rfl rfl
              have e45 := got hφ (hd 17 (by kernel_rfl)) rfl rfl rfl
              clear hold hφ hcl hkp hd
              rw [if_pos (by rfl)]
              have hTl := HTl.out
              have hext := Hext.out
              go_simp
              exact hK _ _ (Only.refl _ _) rfl
            · intro a W L N hR hold hφ hcl hkp hd K hK
              have e33 := got hφ (hd 5 (by kernel_rfl)) rfl rfl rfl
              have e46 := got hφ (hd 18 (by kernel_rfl)) rfl rfl rfl
              clear hold hφ hcl hkp hd
              rw [if_pos (by rfl)]
              go_simp
              exact hK _ _ (Only.refl _ _) rfl
            · intro a W L N hR hold hφ hcl hkp hd K hK
              have hsz := hR.size
              clear hold hφ hcl hkp hd
              rw [if_pos (by rfl)]
              go_simp
              exact hK _ _ ((Only.refl _ _).alloc _) ⟨_, rfl, IsBlk.made W _, hsz⟩
          · intro us W hO' hus
            have p19 : us 19 = .agg #[.string ⟨nm.toArray⟩, .string ⟨tt.toArray⟩] := hus 19 _ 47 (by omega) rfl rfl
            obtain ⟨g, p20, hgb, hgs⟩ : ∃ g, us 20 = .pointer (some ⟨g, 0, none⟩) ∧ IsBlk W g (.cells #[.string ⟨#[]⟩, .string ⟨#[]⟩] 48) ∧ wr.heap.size ≤ g := hus 20 _ 8 (by omega) rfl rfl
            clear hus
            simp only [List.take_succ_cons, List.take_zero, List.drop_succ_cons, List.drop_zero, fillAct, Act.put, List.setIfInBounds_toArray, List.set_cons_zero, List.set_cons_succ, Nat.reduceAdd, p19, p20]
            have hA := (Only.refl [] wr).drew.plus hO'
            clear p19 p20
            have g0 : W.cell? ⟨g, 0, none⟩ = some (.string ⟨#[]⟩) := hgb.cell 0
            have g1 : W.cell? ⟨g, 1, none⟩ = some (.string ⟨#[]⟩) := hgb.cell 1
            have z0 := hgb.notFrozen 0
            have z1 := hgb.notFrozen 1
            have hgw := hgb.lt
            have hb1 := (hgb.put 0 (.string ⟨nm.toArray⟩)).put 1 (.string ⟨tt.toArray⟩)
            have hO1 : Only [g] W ((W.setCell ⟨g, 0, none⟩ (.string ⟨nm.toArray⟩)).setCell ⟨g, 1, none⟩ (.string ⟨tt.toArray⟩)) := ((Only.refl _ W).setCell (by simp) _).setCell (by simp) _
            have hOr : Only [] wr ((W.setCell ⟨g, 0, none⟩ (.string ⟨nm.toArray⟩)).setCell ⟨g, 1, none⟩ (.string ⟨tt.toArray⟩)) := (hA.trans hO1).into (fun i hi => .inr (by simp at hi; omega))
            obtain ⟨a5, c5, rfl, hfl, -⟩ := (Hown.out.only hOr).files
            have Hfl := Lib.hid hfl
            have HOr := Lib.hid hOr
            have Hb1 := Lib.hid hb1
            clear hfl hOr hb1 hO1 hA
            go_wp2_with fail
            clear g0 g1 z0 z1 hgb
            generalize (W.setCell ⟨g, 0, none⟩ (.string ⟨nm.toArray⟩)).setCell ⟨g, 1, none⟩ (.string ⟨tt.toArray⟩) = W2 at *
            refine (at_any _ a5 _ c5 (makeM l ns j) nm Hfl.out (by omega)).mono ?_
            rintro e w' ⟨r, rfl, hr, rfl⟩
            have Hr := Lib.hid hr
            clear hr
            have q0 : W2.cell? ⟨g, 0, none⟩ = some (.string ⟨nm.toArray⟩) := Hb1.out.cell 0
            have q1 : W2.cell? ⟨g, 1, none⟩ = some (.string ⟨tt.toArray⟩) := Hb1.out.cell 1
            have Hmk : Hid (makeM l ns (j + 1) = addM (makeM l ns j) (nm, tt)) := Lib.hid (by rw [make_succ, Hone.out, ← hkk.out, Hnm.out, Htt.out])
            by_cases hr0 : r < 0
            · have Hadd : Hid (makeM l ns (j + 1) = makeM l ns j ++ [(nm, tt)]) := Lib.hid (by rw [Hmk.out]; unfold addM; rw [if_neg (Hr.out.1 hr0)])
              have hOa := Lib.hid ((Only.refl [] W2).alloc (.cells #[.string ⟨nm.toArray⟩, .string ⟨tt.toArray⟩] 48))
              have hq := IsBlk.made W2 (.cells #[.string ⟨nm.toArray⟩, .string ⟨tt.toArray⟩] 48)
              have Hq0 := Lib.hid (hq.cell 0)
              have Hq1 := Lib.hid (hq.cell 1)
              have Howa := Lib.hid ((Hown.out.only HOr.out).only hOa.out)
              have hszj : w.heap.size ≤ (W2.alloc (.cells #[.string ⟨nm.toArray⟩, .string ⟨tt.toArray⟩] 48)).heap.size := Nat.le_trans HO.out.size (Nat.le_trans HOr.out.size hOa.out.size)
              have htl : (makeM l ns j).length ≤ 1000000 := by omega
              clear hq
              go_wp2_with (at_builtin; refine wpList_append_f rfl _ _ rfl w.heap.size _ _ rfl Howa.out W2.heap.size 1 (nm, tt) rfl Hq0.out Hq1.out htl hszj ?_; intro v' w4 h4 hg4)
              go_roundw
              case rel =>
                refine ⟨j + 1, by omega, by go_num, by rw [Hadd.out]; exact h4, by rw [Hadd.out, List.length_append]; simp; omega, onlyOwn ((HO.out.plus HOr.out).plus hOa.out) Howa.out hg4 (Nat.le_refl _)⟩
              case measure => simp [intOf]; omega
            · have Hadd : Hid (makeM l ns (j + 1) = makeM l ns j) := Lib.hid (by rw [Hmk.out]; unfold addM; rw [if_pos (Classical.byContradiction (fun h => hr0 (Hr.out.2 h)))])
              go_wp2
              go_roundw
              case rel => exact ⟨j + 1, by omega, by go_num, by rw [Hadd.out]; exact Hown.out.only HOr.out, by rw [Hadd.out]; omega, HO.out.plus HOr.out⟩
              case measure => simp [intOf]; omega
      · have h8i : ¬ (j : Int) < 8 := by omega
        go_wp2
        go_ret
        have hj8 : j = min l.length 8 := by omega
        have := Hown.out
        exact ⟨_, rfl, by rw [← hj8]; exact this, HO.out⟩
    · have hge : ¬ (j : Int) < (l.length : Int) := by omega
      go_wp2
      go_ret
      have hj8 : j = min l.length 8 := by omega
      have := Hown.out
      exact ⟨_, rfl, by rw [← hj8]; exact this, HO.out⟩

end Go.Proofs.YtfampoblcielpaaGreat
namespace Go.Proofs.YtfampoblcielpaaGreat
set_option maxRecDepth 100000
set_option linter.unusedVariables false
open Go.RowKit Go.Sort Go.Maps Go.ChangeShapes Go.WideShapes Go.Deep

def FilesArg (w : World) (a : Option Addr) (len : Nat) (l : List FileM) : Prop := FilesAt w a len l ∧ (∀ f ∈ l, f.1.length ≤ maxLen ∧ f.2.length ≤ maxLen) ∧ len ≤ maxLen
def IntsArg (w : World) (a : Option Addr) (len : Nat) (ns : List Int) : Prop := IntsAt w a len ns ∧ len ≤ maxLen

theorem file_of_cells {H : Type} {enc : TypeId × Value → H} {W : World} {n : Nat} {b o : Nat} {cs : List Value} {x : DataW H × List MemPlace} (hcl : cs.length = 2) (hat : ∀ i, i < 2 → W.cell? ⟨b, o + i, none⟩ = cs[i]?)
    (h : DataW.trod enc Tryz.prog W 0 (fun _ => true) true n 48 cs = some x) : ∃ f : FileM, (W.cell? ⟨b, o, none⟩ = some (encStr f.1) ∧ W.cell? ⟨b, o + 1, none⟩ = some (encStr f.2)) ∧ f.1.length ≤ maxLen ∧ f.2.length ≤ maxLen := by
  obtain ⟨xs, m, _, _, _, hlen, hf⟩ := DataW.trod_struct Tryz.underlying48 h
  match cs, hcl with
  | [v0, v1], _ =>
    match xs, hlen with
    | [y0, y1], _ =>
      have c9 : Tryz.prog.cellsOf 9 = 1 := by kernel_rfl
      have g0 := hf 0 _ rfl
      have g1 := hf 1 _ rfl
      simp [c9] at g0 g1
      obtain ⟨s0, e0, _, hs0⟩ := DataW.trod_string Tryz.underlying9 g0
      obtain ⟨s1, e1, _, hs1⟩ := DataW.trod_string Tryz.underlying9 g1
      simp at e0 e1
      subst e0 e1
      have hat0 : W.cell? ⟨b, o, none⟩ = some (.string s0) := hat 0 (by omega)
      have hat1 : W.cell? ⟨b, o + 1, none⟩ = some (.string s1) := hat 1 (by omega)
      have l0 : s0.data.toList.length ≤ maxLen := by rw [Array.length_toList]; exact hs0
      have l1 : s1.data.toList.length ≤ maxLen := by rw [Array.length_toList]; exact hs1
      exact ⟨(s0.data.toList, s1.data.toList), ⟨hat0, hat1⟩, l0, l1⟩

theorem files_of_read {H : Type} {enc : TypeId × Value → H} {W : World} {a : Option Addr} {len cap : Nat} {d : DataW H} {p : List MemPlace}
    (h : DataW.Trod enc Tryz.prog W 0 (fun _ => true) true 34 (.slice a len cap) d p) : ∃ L, FilesArg W a len L := by
  obtain ⟨fuel, hf⟩ := h
  rcases open_slice Tryz.underlying34 hf with ⟨hcs, _⟩ | ⟨x, l, c, m, n, D, Pl, hcs, _, hl, hm, hmm, _, hx⟩
  · simp [Value.cells] at hcs
    obtain ⟨rfl, rfl, rfl⟩ := hcs
    exact ⟨[], ⟨rfl, fun h => by omega⟩, by simp, by simp⟩
  · simp [Value.cells] at hcs
    obtain ⟨rfl, rfl, rfl⟩ := hcs
    have c36 : Tryz.prog.cellsOf 48 = 2 := by kernel_rfl
    rw [c36] at hx
    have hm' : m = cap := by simpa using hmm
    by_cases h0 : len = 0
    · subst h0; exact ⟨[], ⟨rfl, fun h => by omega⟩, by simp, by simp⟩
    obtain ⟨b, o, sp0⟩ := x
    have hspot : sp0 = none := by
      obtain ⟨cs', hc, _⟩ := hx 0 (by omega)
      obtain ⟨_, hcl, hat⟩ := World.cells?_some hc
      have h1 := hat 0 (by omega)
      rw [List.getElem?_eq_getElem (by omega)] at h1
      simpa [Addr.add] using World.cell?_spot h1
    subst hspot
    have hb : b < W.heap.size := by
      obtain ⟨cs', hc, _⟩ := hx 0 (by omega)
      obtain ⟨_, hcl, hat⟩ := World.cells?_some hc
      have h1 := hat 0 (by omega)
      rw [List.getElem?_eq_getElem (by omega)] at h1
      have := World.block_lt_of_cell? W _ h1
      simpa [Addr.add] using this
    have hall : ∀ i, i < len → ∃ f : FileM, (W.cell? ⟨b, o + i * 2, none⟩ = some (encStr f.1) ∧ W.cell? ⟨b, o + i * 2 + 1, none⟩ = some (encStr f.2)) ∧ f.1.length ≤ maxLen ∧ f.2.length ≤ maxLen := fun i hi => by
      obtain ⟨cs', hc, ht⟩ := hx i (by omega)
      obtain ⟨_, hcl, hat⟩ := World.cells?_some hc
      refine file_of_cells hcl (fun j hj => ?_) ht
      have := hat j hj
      rw [Addr.add_mid, Addr.add_mid] at this
      exact this
    have : ∀ k, k ≤ len → ∃ L : List FileM, L.length = k ∧ (∀ (i : Nat) (f : FileM), L[i]? = some f → W.cell? ⟨b, o + i * 2, none⟩ = some (encStr f.1) ∧ W.cell? ⟨b, o + i * 2 + 1, none⟩ = some (encStr f.2)) ∧ ∀ f ∈ L, f.1.length ≤ maxLen ∧ f.2.length ≤ maxLen := by
      intro k
      induction k with
      | zero => intro _; exact ⟨[], rfl, fun i c h => by simp at h, by simp⟩
      | succ k ih =>
        intro hk
        obtain ⟨L, hL, hLc, hLm⟩ := ih (by omega)
        obtain ⟨c, hc, hcm⟩ := hall k (by omega)
        refine ⟨L ++ [c], by simp [hL], fun i c' h => ?_, fun f hf => ?_⟩
        · rcases Nat.lt_or_ge i L.length with hi | hi
          · rw [List.getElem?_append_left hi] at h; exact hLc i c' h
          · rw [List.getElem?_append_right hi] at h
            have hik : i = k := by
              have := (List.getElem?_eq_some_iff.1 h).1; simp at this; omega
            subst hik
            simp [hL] at h
            subst h
            exact hc
        · rcases List.mem_append.1 hf with h1 | h1
          · exact hLm f h1
          · simp at h1; subst h1; exact hcm
    obtain ⟨L, hL, hLc, hLm⟩ := this len (Nat.le_refl _)
    exact ⟨L, ⟨hL, fun _ => ⟨b, o, rfl, hb, hLc⟩⟩, hLm, by omega⟩

theorem ints_of_read {H : Type} {enc : TypeId × Value → H} {W : World} {a : Option Addr} {len cap : Nat} {d : DataW H} {p : List MemPlace}
    (h : DataW.Trod enc Tryz.prog W 0 (fun _ => true) true 36 (.slice a len cap) d p) : ∃ L, IntsArg W a len L := by
  obtain ⟨fuel, hf⟩ := h
  rcases open_slice Tryz.underlying36 hf with ⟨hcs, _⟩ | ⟨x, l, c, m, n, D, Pl, hcs, _, hl, hm, hmm, _, hx⟩
  · simp [Value.cells] at hcs
    obtain ⟨rfl, rfl, rfl⟩ := hcs
    exact ⟨[], ⟨rfl, fun h => by omega⟩, by simp⟩
  · simp [Value.cells] at hcs
    obtain ⟨rfl, rfl, rfl⟩ := hcs
    have c36 : Tryz.prog.cellsOf 3 = 1 := by kernel_rfl
    rw [c36] at hx
    have hm' : m = cap := by simpa using hmm
    by_cases h0 : len = 0
    · subst h0; exact ⟨[], ⟨rfl, fun h => by omega⟩, by simp⟩
    obtain ⟨b, o, sp0⟩ := x
    have hspot : sp0 = none := by
      obtain ⟨cs', hc, _⟩ := hx 0 (by omega)
      obtain ⟨_, hcl, hat⟩ := World.cells?_some hc
      have h1 := hat 0 (by omega)
      rw [List.getElem?_eq_getElem (by omega)] at h1
      simpa [Addr.add] using World.cell?_spot h1
    subst hspot
    have hb : b < W.heap.size := by
      obtain ⟨cs', hc, _⟩ := hx 0 (by omega)
      obtain ⟨_, hcl, hat⟩ := World.cells?_some hc
      have h1 := hat 0 (by omega)
      rw [List.getElem?_eq_getElem (by omega)] at h1
      have := World.block_lt_of_cell? W _ h1
      simpa [Addr.add] using this
    have hall : ∀ i, i < len → ∃ z : Int, W.cell? ⟨b, o + i, none⟩ = some (.int .i64 z) := fun i hi => by
      obtain ⟨cs', hc, ht⟩ := hx i (by omega)
      obtain ⟨_, hcl, hat⟩ := World.cells?_some hc
      obtain ⟨z, e, _, _⟩ := DataW.trod_int Tryz.underlying3 ht
      subst e
      have := hat 0 (by omega)
      rw [Addr.add_mid, Addr.add_mid] at this
      simp at this
      exact ⟨z, this⟩
    have : ∀ k, k ≤ len → ∃ L : List Int, L.length = k ∧ ∀ (i : Nat) (z : Int), L[i]? = some z → W.cell? ⟨b, o + i, none⟩ = some (.int .i64 z) := by
      intro k
      induction k with
      | zero => intro _; exact ⟨[], rfl, fun i c h => by simp at h⟩
      | succ k ih =>
        intro hk
        obtain ⟨L, hL, hLc⟩ := ih (by omega)
        obtain ⟨c, hc⟩ := hall k (by omega)
        refine ⟨L ++ [c], by simp [hL], fun i c' h => ?_⟩
        rcases Nat.lt_or_ge i L.length with hi | hi
        · rw [List.getElem?_append_left hi] at h; exact hLc i c' h
        · rw [List.getElem?_append_right hi] at h
          have hik : i = k := by
            have := (List.getElem?_eq_some_iff.1 h).1; simp at this; omega
          subst hik
          simp [hL] at h
          subst h
          exact hc
    obtain ⟨L, hL, hLc⟩ := this len (Nat.le_refl _)
    exact ⟨L, ⟨hL, fun _ => ⟨b, o, rfl, hb, hLc⟩⟩, by omega⟩

end Go.Proofs.YtfampoblcielpaaGreat
namespace Go.Proofs.YtfampoblcielpaaGreat
set_option maxRecDepth 100000
set_option linter.unusedVariables false
open Go.RowKit Go.Sort Go.Maps

theorem mkName_ok (k : Int) : nameM (mkName k) = true ∧ (mkName k).length = 1 := by
  have h0 := Int.emod_nonneg k (show (5 : Int) ≠ 0 by omega)
  have h1 := Int.emod_lt_of_pos k (show (0 : Int) < 5 by omega)
  refine ⟨?_, rfl⟩
  have h2 : (k % 5).toNat = 0 ∨ (k % 5).toNat = 1 ∨ (k % 5).toNat = 2 ∨ (k % 5).toNat = 3 ∨ (k % 5).toNat = 4 := by omega
  unfold mkName
  rcases h2 with h | h | h | h | h <;> rw [h] <;> decide
/-- What Make makes: sound, small. -/
theorem make_good (l : List FileM) (ns : List Int) : ∀ j, goodM (makeM l ns j) ∧ (∀ f ∈ makeM l ns j, f.1.length = 1 ∧ f.2.length ≤ 400) ∧ (makeM l ns j).length ≤ j
  | 0 => ⟨⟨by simp [makeM], by simp [makeM]⟩, by simp [makeM], by simp [makeM]⟩
  | j + 1 => by
    obtain ⟨h1, h2, h3⟩ := make_good l ns j
    rw [make_succ]
    unfold addM
    split
    · exact ⟨h1, h2, by omega⟩
    · rename_i hn
      obtain ⟨q1, q2⟩ := mkName_ok (ns.getD j j)
      have q3 : (mkOne l ns j).2.length ≤ 400 := by unfold mkOne; simp only [List.length_take]; omega
      refine ⟨⟨fun f hf => ?_, ?_⟩, fun f hf => ?_, by rw [List.length_append]; simp; omega⟩
      · rcases List.mem_append.1 hf with h | h
        · exact h1.1 f h
        · simp at h; subst h; exact ⟨q1, by omega⟩
      · rw [List.map_append, List.nodup_append]
        refine ⟨h1.2, by simp, fun x hx y hy e => ?_⟩
        simp at hy
        subst hy e
        exact hn hx
      · rcases List.mem_append.1 hf with h | h
        · exact h2 f h
        · simp at h; subst h; exact ⟨q2, q3⟩
theorem make_sound (l : List FileM) (ns : List Int) {j : Nat} (hj : j ≤ 8) : soundM (makeM l ns j) = true := by
  obtain ⟨h1, h2, h3⟩ := make_good l ns j
  have : (makeM l ns j).length ≤ 8 := by omega
  simp [soundM, h1, this]
theorem small_set {l : List FileM} (h : goodM l) (hs : ∀ f ∈ l, f.1.length = 1 ∧ f.2.length ≤ 400) (hl : l.length ≤ 8) : (setB (buildF l)).length ≤ 3300 ∧ (changeB [] (buildF l) ((buildF l).map (·.1))).length ≤ 3300 := by
  have hp := build_perm l h.2
  have hs' : ∀ f ∈ buildF l, f.1.length = 1 ∧ f.2.length ≤ 400 := fun f hf => hs f (hp.mem_iff.1 hf)
  have hl' : (buildF l).length ≤ 8 := by rw [hp.length_eq]; exact hl
  generalize buildF l = N at *
  have key : ∀ M : List FileM, (∀ f ∈ M, f.1.length = 1 ∧ f.2.length ≤ 400) → (M.flatMap fileB).length ≤ 404 * M.length := by
    intro M
    induction M with
    | nil => simp
    | cons f r ih =>
      intro hM
      have h1 := hM f (by simp)
      have h2 := ih (fun g hg => hM g (by simp [hg]))
      rw [List.flatMap_cons, List.length_append, length_fileB, List.length_cons]
      omega
  have key2 : ∀ ns : List (List UInt8), (∀ n ∈ ns, n.length = 1) → (chgL [] N ns).flatten.length ≤ 405 * ns.length ∧ (chgL [] N ns).length ≤ ns.length := by
    intro ns
    induction ns with
    | nil => simp [chgL]
    | cons n r ih =>
      intro hn
      have ih' := ih (fun m hm => hn m (by simp [hm]))
      have hn1 := hn n (by simp)
      unfold chgL at ih' ⊢
      rw [List.filterMap_cons]
      cases hc : chgE [] N n with
      | none => simp only [List.length_cons]; omega
      | some x =>
        have hx : x.length ≤ 405 := by
          unfold chgE at hc
          split at hc
          · cases hc
          · injection hc with hc
            subst hc
            split
            · rename_i hsm
              obtain ⟨g, hg⟩ := Option.isSome_iff_exists.1 hsm
              have h1 := hs' g (List.mem_of_find?_eq_some hg)
              have h3 : atF n N = g := by unfold atF; rw [hg]; rfl
              rw [h3, List.length_append, length_leB, length_fileB]
              omega
            · rw [List.length_append, List.length_append, length_leB, length_leB]
              omega
        simp only [List.flatten_cons, List.length_append, List.length_cons]
        omega
  constructor
  · unfold setB
    rw [List.length_append, length_leB]
    have := key N hs'
    omega
  · unfold changeB
    rw [List.length_append, length_leB]
    have := (key2 (N.map (·.1)) (fun n hn => by obtain ⟨f, hf, rfl⟩ := List.mem_map.1 hn; exact (hs' f hf).1)).1
    rw [List.length_map] at this
    omega

/-- A small sound set, committed onto none on a wide disk. -/
theorem commit_fresh (w : World) (sp lp pd bl bm b : Nat) (D : DS) (l : List FileM) (a : Option Addr) (len cap : Nat) (h : StAt w sp lp pd bl bm b D ⟨128, 1, 1, 0, 1, 1⟩ [setB []] 2 []) (hl : FilesAt w a len l) (hg : goodM l) (hs : ∀ f ∈ l, f.1.length = 1 ∧ f.2.length ≤ 400) (hl8 : l.length ≤ 8) :
    Calls Tryz.prog 10 #[.pointer (some ⟨sp, 0, none⟩), .slice a len cap] w fun e w' => e = .returned (.int .i64 0) ∧ ∃ bn D' L' rs' k', StAt w' sp lp pd bl bm bn D' L' rs' k' (buildF l) ∧ (bn = b ∨ w.heap.size ≤ bn) ∧ (L'.size = 128 ∧ 0 ≤ k' ∧ k' ≤ 602 ∧ L'.gen ≤ 2 ∧ (rs' = [setB [], changeB [] (buildF l) ((buildF l).map (·.1))] ∨ rs' = [setB (buildF l)])) ∧ Only [sp, lp, pd, bl, bm] w w' := by
  obtain ⟨q1, q2⟩ := small_set hg hs hl8
  have hsd : soundM l = true := by simp [soundM, hg, hl8]
  have hlen := hl.1
  have p1 : partsN (setB (buildF l)).length ≤ 128 := by unfold partsN; omega
  have p2 : partsN (changeB [] (buildF l) ((buildF l).map (·.1))).length ≤ 255 := by unfold partsN; omega
  refine (commit_any w sp lp pd bl bm b D _ _ _ [] l a len cap h hl (fun f hf => by have := hs f hf; unfold maxLen; omega) (by unfold maxLen; omega) (.inl rfl) (fun _ => by omega) (fun _ => p2) (by simp) (by omega) (by omega)).mono ?_
  rintro e w' ⟨-, -, hx, hy⟩
  by_cases hN : ([] : List FileM) = buildF l
  · obtain ⟨he, hS, hO⟩ := hx hsd p1 hN
    refine ⟨he, b, D, _, _, _, by rw [← hN]; exact hS, .inl rfl, ⟨rfl, by omega, by omega, by simp, .inr (by rw [← hN])⟩, hO.into (by simp)⟩
  · obtain ⟨he, bn, D', L', rs', k', hS, hsz, hk0, ⟨hk1, hrs, hgn⟩, hbn, hO⟩ := hy hsd p1 hN
    exact ⟨he, bn, D', L', rs', k', hS, .inr hbn, ⟨hsz, hk0, by omega, by simpa using hgn, by simpa using hrs⟩, hO⟩
theorem StAt.keep {w w' : World} {sp lp pd bl bm b g : Nat} {D : DS} {L : LS} {rs : List (List UInt8)} {k : Int} {F : List FileM} (h : StAt w sp lp pd bl bm b D L rs k F) (hO : Only [g] w w') (hg : g ∉ [sp, lp, pd, bl, bm, b]) : StAt w' sp lp pd bl bm b D L rs k F := by
  simp only [List.mem_cons, List.not_mem_nil, or_false, not_or] at hg
  exact ⟨h.blk.only hO (by simp; omega), ⟨h.wl.disk.keep hO (by simp; omega) (by simp; omega) (by simp; omega), h.wl.log.keep hO (by simp; omega), h.wl.live, h.wl.ok, h.wl.ne⟩, h.set.keep hO (by simp; omega), h.ns, h.nb⟩

end Go.Proofs.YtfampoblcielpaaGreat
namespace Go.Proofs.YtfampoblcielpaaGreat
set_option maxRecDepth 100000
set_option linter.unusedVariables false
open Go.RowKit Go.Sort Go.Maps

theorem StAt.keepS {w w' : World} {sp lp pd bl bm b : Nat} {D : DS} {L : LS} {rs : List (List UInt8)} {k : Int} {F : List FileM} {S : List Nat} (h : StAt w sp lp pd bl bm b D L rs k F) (hO : Only S w w') (hS : ∀ x ∈ S, x ∉ [sp, lp, pd, bl, bm, b]) : StAt w' sp lp pd bl bm b D L rs k F := by
  have hn : ∀ y ∈ [sp, lp, pd, bl, bm, b], y ∉ S := fun y hy hm => hS y hm hy
  exact ⟨h.blk.only hO (hn _ (by simp)), ⟨h.wl.disk.keep hO (hn _ (by simp)) (hn _ (by simp)) (hn _ (by simp)), h.wl.log.keep hO (hn _ (by simp)), h.wl.live, h.wl.ok, h.wl.ne⟩, h.set.keep hO (hn _ (by simp)), h.ns, h.nb⟩
/-- The memory of a row of files of one's own. -/
def Mem (w : World) (a : Option Addr) (n : Nat) (S : List Nat) : Prop := 0 < n → ∃ g cur, a = some ⟨g, 0, none⟩ ∧ g ∈ S ∧ IsBlk w g (.cells cur 48) ∧ n * 2 ≤ cur.size
theorem OwnF.mem {w : World} {base n c : Nat} {a : Option Addr} {l : List FileM} (h : OwnF w base (.slice a n c) l) (hn : l.length = n) : ∃ S, (∀ x ∈ S, base ≤ x ∧ x < w.heap.size) ∧ Mem w a n S := by
  rcases h.2 with ⟨h0, h1⟩ | ⟨g, cap, cur, e, hb, hg, h1, _, h3, _⟩
  · exact ⟨[], by simp, fun hp => by omega⟩
  · injection e with e1 e2 e3
    refine ⟨[g], fun x hx => by simp at hx; subst hx; exact ⟨hb, IsBlk.lt hg⟩, fun _ => ⟨g, cur, e1, by simp, hg, by omega⟩⟩
theorem Mem.only {w w' : World} {a : Option Addr} {n : Nat} {S T : List Nat} (h : Mem w a n S) (hO : Only T w w') (hT : ∀ x ∈ S, x ∉ T) : Mem w' a n S := fun hp => by
  obtain ⟨g, cur, e, hg, hb, hs⟩ := h hp
  exact ⟨g, cur, e, hg, hb.only hO (hT g hg), hs⟩

end Go.Proofs.YtfampoblcielpaaGreat
namespace Go.Proofs.YtfampoblcielpaaGreat
set_option maxRecDepth 100000
set_option linter.unusedVariables false
open Go.RowKit Go.Sort Go.Maps

theorem rise_ins {f : FileM} : ∀ {F : List FileM}, Rise F → f.1 ∉ F.map (·.1) → Rise (insS f F)
  | [], _, _ => List.pairwise_cons.2 ⟨by simp, List.Pairwise.nil⟩
  | g :: r, h, hn => by
    have h' := List.pairwise_cons.1 h
    simp only [List.map_cons, List.mem_cons, not_or] at hn
    unfold insS
    split
    · rename_i hb
      refine List.pairwise_cons.2 ⟨fun x hx => ?_, h⟩
      rcases List.mem_cons.1 hx with rfl | hx
      · exact hb
      · rw [before_eq, decide_eq_true_eq]
        exact List.lt_trans (before_lt hb) (before_lt (h'.1 x hx))
    · rename_i hb
      refine List.pairwise_cons.2 ⟨fun x hx => ?_, rise_ins h'.2 hn.2⟩
      have hx' := (ins_perm f r).mem_iff.1 hx
      rcases List.mem_cons.1 hx' with rfl | hx'
      · rw [before_eq, decide_eq_true_eq]
        rw [before_eq, decide_eq_true_eq] at hb
        exact Classical.byContradiction (fun h3 => hn.1 (List.le_antisymm (List.not_lt.1 h3) (List.not_lt.1 hb)))
      · exact h'.1 x hx'
theorem rise_build : ∀ l : List FileM, (l.map (·.1)).Nodup → Rise (buildF l) := by
  refine snoc_cases (fun _ => List.Pairwise.nil) (fun l f ih h => ?_)
  rw [build_snoc]
  rw [List.map_append, List.nodup_append] at h
  have hn : f.1 ∉ (buildF l).map (·.1) := fun hm => by
    have := ((build_perm l h.1).map (·.1)).mem_iff.1 hm
    exact h.2.2 _ this f.1 (by simp) rfl
  unfold putS
  rw [del_none_S hn]
  exact rise_ins (ih h.1) hn
theorem build_congr {l m : List FileM} (h : l.Perm m) (hn : (m.map (·.1)).Nodup) : buildF l = buildF m := by
  have hl : (l.map (·.1)).Nodup := (h.map (·.1)).nodup_iff.2 hn
  have p := (build_perm l hl).trans (h.trans (build_perm m hn).symm)
  exact sub_eq _ _ (rise_build l hl) (rise_build m hn) (fun x hx => p.mem_iff.1 hx) p.length_eq

/-- Files turned. -/
def turnM (M : List FileM) (m : Nat) : List FileM := M.drop m ++ M.take m
theorem turn_perm (M : List FileM) (m : Nat) : (turnM M m).Perm M := by
  unfold turnM
  refine List.perm_append_comm.trans ?_
  rw [List.take_append_drop]
theorem turn_get {M : List FileM} {m j : Nat} (hm : m < M.length) (hj : j < M.length) : (turnM M m)[j]? = M[(j + m) % M.length]? := by
  unfold turnM
  by_cases h : j + m < M.length
  · rw [Nat.mod_eq_of_lt h, List.getElem?_append_left (by rw [List.length_drop]; omega), List.getElem?_drop, Nat.add_comm]
  · have e : (j + m) % M.length = j + m - M.length := by
      rw [Nat.mod_eq_sub_mod (by omega), Nat.mod_eq_of_lt (by omega)]
    rw [e, List.getElem?_append_right (by rw [List.length_drop]; omega), List.length_drop, List.getElem?_take_of_lt (by omega)]
    congr 1
    omega

set_option maxHeartbeats 8000000 in
/-- A commit of the files that are there already. -/
theorem commit_same (w : World) (sp lp pd bl bm b : Nat) (D : DS) (L : LS) (rs : List (List UInt8)) (k : Int) (l : List FileM) (a : Option Addr) (len cap : Nat) (h : StAt w sp lp pd bl bm b D L rs k (buildF l)) (hl : FilesAt w a len l) (hm : ∀ f ∈ l, f.1.length ≤ maxLen ∧ f.2.length ≤ maxLen) (hlen : len ≤ maxLen)
    (hs : soundM l = true) (hp : partsN (setB (buildF l)).length ≤ 255) (hfit : partsN (setB (buildF l)).length ≤ L.size) :
    Calls Tryz.prog 10 #[.pointer (some ⟨sp, 0, none⟩), .slice a len cap] w fun e w' => e = .returned (.int .i64 0) ∧ StAt w' sp lp pd bl bm b D L rs k (buildF l) ∧ Only [] w w' := by
  have H := Lib.hid h
  have Hl := Lib.hid hl
  have Hm := Lib.hid hm
  clear h hl hm
  go_enter Tryz.func10, Tryz.ntmps10
  go_wp2_with fail
  refine (setOf_any _ a len cap l Hl.out Hm.out hlen).mono ?_
  rintro e w1 ⟨hyes, hno, hO1⟩
  have HO1 := Lib.hid hO1
  obtain ⟨bn, rfl, hset, hbn⟩ := hyes hs
  have HM := Lib.hid (sound_modest hs)
  have Hset := Lib.hid hset
  clear hyes hno hO1 hs hset
  generalize hN : buildF l = N at *
  have HN := Lib.hid hN
  clear hN
  go_wp2_with fail
  refine (whole_any _ bn N Hset.out HM.out).mono ?_
  rintro e w2 ⟨v2, rfl, hv2, hO2⟩
  obtain ⟨a2, c2, rfl, hs2, hn2, -⟩ := OwnB.shape hv2
  have Hs2 := Lib.hid hs2
  have HO2 := Lib.hid (HO1.out.plus hO2)
  have Hset2 := Lib.hid (Hset.out.more hO2)
  have H2 := Lib.hid (H.out.more HO2.out)
  have c0 := H2.out.c0
  have c1 := H2.out.c1
  clear hv2 hs2 hn2 hO2 Hset
  go_wp2_with fail
  refine (fits_any _ lp pd L a2 c2 (setB N) H2.out.wl.log Hs2.out hp).mono ?_
  rintro e w3 ⟨rfl, hO3⟩
  have HO3 := Lib.hid (HO2.out.plus hO3)
  have Hset3 := Lib.hid (Hset2.out.more hO3)
  have H3 := Lib.hid (H2.out.more hO3)
  have d0 := H3.out.c0
  have d1 := H3.out.c1
  clear hO3 c0 c1 Hs2 HO2 Hset2 H2
  rw [decide_eq_true hfit]
  go_wp2_with fail
  refine (sameSet_any _ b bn N N H3.out.set Hset3.out).mono ?_
  rintro e w4 ⟨rfl, hO4⟩
  have HO4 := Lib.hid (HO3.out.plus hO4)
  have H4 := Lib.hid (H3.out.more hO4)
  clear hO4 d0 d1 HO3 Hset3 H3
  rw [decide_eq_true (rfl : N = N)]
  go_wp2
  go_ret
  exact ⟨rfl, by rw [HN.out]; exact H4.out, HO4.out⟩

end Go.Proofs.YtfampoblcielpaaGreat
