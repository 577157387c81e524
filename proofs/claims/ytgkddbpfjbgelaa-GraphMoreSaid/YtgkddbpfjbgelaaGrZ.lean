/-
  The law GraphMore.
-/
import Derived.Test.YtgkddbpfjbgelaaGrY
import Derived.Deep.RegionHeld3
namespace Go.Proofs.Ytgkddbpfjbgelaa
set_option maxRecDepth 100000
set_option linter.unusedVariables false
open Go.RowKit Go.Sort Go.Maps

theorem RowsN.off {w w' : World} {base : Nat} {v : Value} {P : List (List Nam)} {S : List Nat} (h : RowsN w base v P) (hO : Only S w w') (hS : ∀ b, base ≤ b → b ∉ S) : RowsN w' base v P := by
  obtain ⟨cs, h1, h2⟩ := h
  refine ⟨cs, owns_off h1 hO (fun k hk => hS k (World.ownsRow.lt h1 k hk).1), fun i p hp => ?_⟩
  obtain ⟨u, k1, k2⟩ := h2 i p hp
  exact ⟨u, k1, OwnN.off k2 hO (fun k hk => hS k (World.ownsRow.lt k2 k hk).1)⟩
def ecells (E : List (Nam × Nam)) : List Value := E.flatMap fun e => [encStr e.1, encStr e.2]
theorem OwnE.src {w : World} {base : Nat} {v : Value} {E : List (Nam × Nam)} (h : OwnE w base v E) : ∃ ad c, v = .slice ad E.length c ∧ ((ad = none ∧ E.length = 0 ∧ c = 0) ∨ ∃ g, ad = some ⟨g, 0, none⟩ ∧ g < w.heap.size ∧ ∀ (j : Nat) (u : Value), (ecells E)[j]? = some u → w.cell? ((⟨g, 0, none⟩ : Addr).add j) = some u) := by
  have hh := h
  rcases h.2 with ⟨e1, e2⟩ | ⟨g, cap, cur, e1, hb, hg, hc, -⟩
  · exact ⟨none, 0, by rw [e2, e1], .inl ⟨rfl, e2, rfl⟩⟩
  · exact ⟨_, cap, e1, .inr ⟨g, rfl, IsBlk.lt hg, fun j u hj => World.ownsRow.cells hh (g := g) (by rw [e1]; rfl) j u hj⟩⟩
theorem wp_append_e8 {w : World} {o : Oper} {a : Act} {K : Act → World → Prop} {Q : Exit → Act → World → Prop} (s x : Operand)
    (ho : o.op = .call { callee := .builtin .append, args := #[s, x], argTypes := #[25, 25] })
    (base : Nat) (v : Value) (L : List (Nam × Nam)) (hs : a.eval s = v) (hown : OwnE w base v L) (ad : Option Addr) (m c : Nat) (M : List (Nam × Nam)) (hx : a.eval x = .slice ad m c) (hm : M.length = m)
    (hc : (ad = none ∧ m = 0 ∧ c = 0) ∨ ∃ A, ad = some A ∧ ∀ (j : Nat) (u : Value), (ecells M)[j]? = some u → w.cell? (A.add j) = some u)
    (hl : L.length ≤ 1000000) (hml : M.length ≤ 1000000) (hbase : base ≤ w.heap.size)
    (h : ∀ v' w', OwnE w' base v' (L ++ M) → Only (ownL v) w w' → (v'.ownBlock = v.ownBlock ∨ v'.ownBlock = some w.heap.size) → K (a.put o.dst v') w') : o.wp Try.prog a w K Q := by
  obtain ⟨i0, hi, hz0, hz1, hz2⟩ := info_parts infoE8
  rcases hc with ⟨rfl, rfl, rfl⟩ | ⟨A, rfl, hcell⟩
  · obtain rfl : M = [] := List.eq_nil_of_length_eq_zero hm
    rw [List.append_nil] at h
    have hown' := hown
    obtain ⟨av, cv, rfl⟩ := owns_slice hown
    have hcv : L.length ≤ cv := by
      rcases hown.2 with ⟨e1, e2⟩ | ⟨g, cap, cur, e1, -, -, hc, -⟩
      · omega
      · injection e1 with _ _ e3; omega
    have hr := run_append_void8 (P := Try.prog) w 25 o.type 35 i0 Try.underlying25 hi av L.length cv hcv
    unfold Oper.wp execOp
    simp only [ho, resolve, invoke, builtin, Sem.run_bind, Sem.run_pure, Result.andThen_ok, List.map_toArray, List.map_cons, List.map_nil, hs, hx, hr]
    exact h _ w hown' (Only.refl _ _) (.inl rfl)
  · obtain ⟨v', w', hr', k2, k3, k4, k5⟩ := run_append_own_at (P := Try.prog) w base 25 o.type 35 i0 _ 2 32 Try.underlying25 hi hz0 hz1 hz2 rfl (by decide) v L.length _ hown A m c (ecells M) (by unfold ecells; rw [ecells_len, hm]) hcell (fun u hu => by
        unfold ecells at hu
        obtain ⟨y, -, hy⟩ := List.mem_flatMap.1 hu
        simp at hy
        rcases hy with rfl | rfl <;> rfl) (by unfold maxLen; omega) (by omega) hbase
    unfold Oper.wp execOp
    simp only [ho, resolve, invoke, builtin, Sem.run_bind, Sem.run_pure, Result.andThen_ok, List.map_toArray, List.map_cons, List.map_nil, hs, hx, hr']
    refine h v' w' ?_ (grown_only k3) k5
    unfold OwnE
    rw [List.length_append, List.flatMap_append, hm]
    exact k2
theorem one_ecells {w : World} {g : Nat} {a b : Nam} {t : TypeId} (h : IsBlk w g (.cells #[.string ⟨a.toArray⟩, .string ⟨b.toArray⟩] t)) : ∀ (j : Nat) (u : Value), (ecells [(a, b)])[j]? = some u → w.cell? ((⟨g, 0, none⟩ : Addr).add j) = some u := by
  intro j u hu
  unfold ecells at hu
  match j, hu with
  | 0, hu => simp at hu; rw [← hu, Addr.add_mid]; exact h.cell 0
  | 1, hu => simp at hu; rw [← hu, Addr.add_mid]; exact h.cell 1
  | j + 2, hu => simp at hu
theorem ownE_void {w : World} {g base : Nat} (hb : base ≤ g) (h : IsBlk w g (.cells #[] 35)) : OwnE w base (.slice (some ⟨g, 0, none⟩) 0 0) [] :=
  ⟨rfl, .inr ⟨g, 0, #[], rfl, hb, h, Nat.le_refl _, by unfold maxLen; omega, rfl, rfl⟩⟩
theorem turnE_len (E : List (Nam × Nam)) : (turnE E).length = E.length := by simp [turnE]

set_option maxHeartbeats 32000000 in
theorem gmore_walk (n0 : Int) (a : Option Addr) (len cap : Nat) (ns : List Int) (ia ib : Int) (w : World) (h : IntsArg w a len ns) : Calls Try.prog 8 #[.int .i64 n0, .slice a len cap, .int .i64 ia, .int .i64 ib] w fun e w' => e = .returned (.bool true) ∧ Only [] w w' := by
  have H := Lib.hid h
  clear h
  go_enter Try.func8, Try.ntmps8
  go_wp2_with fail
  refine (known8_any w).mono ?_
  rintro e w1 ⟨rfl, hO1⟩
  have HO1 := Lib.hid hO1
  clear hO1
  go_wp2_with fail
  refine (within8_to w1 n0 8 (by omega) (by omega)).mono ?_
  rintro e w2 ⟨rfl, rfl⟩
  have hm : inM n0 (8 : Int).toNat + 1 ≤ 9 := by have := inM_lt n0 (8 : Int).toNat (by decide); have h8 : (8 : Int).toNat = 8 := rfl; omega
  obtain ⟨n, hn⟩ : ∃ n, n = inM n0 (8 : Int).toNat + 1 := ⟨_, rfl⟩
  have hn1 : 1 ≤ n := by omega
  rw [← hn] at hm
  have hnv : (1 : Int) + (inM n0 (8 : Int).toNat : Nat) = (n : Int) := by rw [hn]; omega
  generalize inM n0 (8 : Int).toNat = m at *
  clear hn
  have H1 : Hid (IntsArg w1 a len ns) := Lib.hid ⟨H.out.1.more HO1.out, H.out.2⟩
  go_wp2_with fail
  refine (edges8_any w1 a len cap n ns H1.out hm).mono ?_
  rintro e w2 ⟨v, u, rfl, hv, hu, hO2⟩
  have HvN := Lib.hid hv
  have Hv := Lib.hid hv.nams
  have HuE := Lib.hid hu
  have Hu := Lib.hid hu.edges
  have HO2 := Lib.hid (HO1.out.plus hO2)
  obtain ⟨av, cv, rfl⟩ := hv.slice
  obtain ⟨aE, cE, rfl⟩ := owns_slice hu
  clear hv hu hO2
  go_wp2_with fail
  have hal : (abc8 n).length ≤ 9 := by rw [abc8_len]; exact hm
  have hel := edges8_len n ns
  have HuC := Hu.out
  obtain ⟨aE', cE', eE, hEc⟩ := HuC
  injection eE with e1 e2 e3
  subst e1
  subst e3
  have HEc := Lib.hid hEc
  clear hEc e2
  generalize hw4 : w2 = w4 at *
  clear hw4
  go_loopw [11, 12] (fun s11 s12 wr => ∃ k : Nat, s12 = .int .i64 k ∧ k ≤ (edges8 n ns).length ∧ OwnE wr w4.heap.size s11 ((turnE (edges8 n ns)).take k) ∧ Only [] w4 wr) (fun _ s12 _ => (edges8 n ns).length - (intOf s12).toNat)
  case atStart => exact ⟨0, rfl, Nat.zero_le _, World.ownsRow_nil _ _ _ _, Only.refl _ _⟩
  case round =>
    obtain ⟨k, rfl, hk, how, hO⟩ := hrel
    have How := Lib.hid how
    have HO := Lib.hid hO
    clear how hO
    by_cases hlt : k < (edges8 n ns).length
    · have hki : (k : Int) < ((edges8 n ns).length : Int) := by omega
      have hk0 : (0 : Int) ≤ (k : Int) := by omega
      obtain ⟨y, hy⟩ : ∃ y, (edges8 n ns)[k]? = some y := ⟨(edges8 n ns)[k], by simp [hlt]⟩
      obtain ⟨gE, rfl, hgE, h1, h2⟩ := HEc.out k y hy
      obtain ⟨ya, yb⟩ := y
      have hdr : Only [] wr wr.drew := (Only.refl [] wr).drew
      have Hld : Hid (∀ W, Only [] wr W → W.cell? ⟨gE, k * 2, none⟩ = some (.string ⟨ya.toArray⟩) ∧ W.cell? ⟨gE, k * 2 + 1, none⟩ = some (.string ⟨yb.toArray⟩)) := Lib.hid (fun W hW => ⟨((HO.out.plus hW).cell (p := ⟨gE, k * 2, none⟩) hgE (by simp)).trans h1, ((HO.out.plus hW).cell (p := ⟨gE, k * 2 + 1, none⟩) hgE (by simp)).trans h2⟩)
      have Htk : Hid ((turnE (edges8 n ns)).take (k + 1) = (turnE (edges8 n ns)).take k ++ [(yb, ya)]) := Lib.hid (by rw [List.take_add_one]; unfold turnE; rw [List.getElem?_map, hy]; rfl)
      have htl : ((turnE (edges8 n ns)).take k).length ≤ 1000000 := by
        have h3 := List.length_take_le' k (turnE (edges8 n ns))
        rw [turnE_len] at h3
        omega
      have hgW : gE < wr.heap.size := Nat.lt_of_lt_of_le hgE HO.out.size
      have hcl1 := Hld.out wr (Only.refl _ _)
      clear hy h1 h2
      go_wp2_with fail
      go_upto_region 9 with fail
      refine wp_region_stabL (P := Try.prog) 13 (by kernel_rfl) (by kernel_rfl) (Only []) (Only.refl _ _) (fun _ _ _ h k => h.then k [] (by simp) (by simp))
        [SP.is (u11),
         SP.is (.slice (some ⟨gE, 0, none⟩) (edges8 n ns).length cE),
         SP.is (.int .i64 k),
         SP.is (.pointer (some ⟨gE, k * 2, none⟩)),
         SP.is (.pointer (some ⟨gE, k * 2 + 1, none⟩)),
         SP.is (.string ⟨yb.toArray⟩),
         SP.is (.slice (some ⟨gE, 0, none⟩) (edges8 n ns).length cE),
         SP.is (.int .i64 k),
         SP.is (.pointer (some ⟨gE, k * 2, none⟩)),
         SP.is (.pointer (some ⟨gE, k * 2, none⟩)),
         SP.is (.string ⟨ya.toArray⟩),
         SP.is (.agg #[.string ⟨yb.toArray⟩, .string ⟨ya.toArray⟩]),
         ⟨fun v W => ∃ q, v = .slice (some ⟨q, 0, none⟩) 1 1 ∧ IsBlk W q (.cells #[.string ⟨yb.toArray⟩, .string ⟨ya.toArray⟩] 35), fun _ _ _ ⟨q, e, h⟩ hO => ⟨q, e, h.only hO (by simp)⟩⟩] ?_ ?_
      · simp only [List.take_succ_cons, List.take_zero]
        refine StepsOK.cons ?_ (StepsOK.cons ?_ (StepsOK.cons ?_ (StepsOK.cons ?_ (StepsOK.cons ?_ (StepsOK.cons ?_ (StepsOK.cons ?_ (StepsOK.cons ?_ (StepsOK.cons ?_ (StepsOK.cons ?_ (StepsOK.cons ?_ (StepsOK.cons ?_ (StepsOK.cons ?_ StepsOK.nil))))))))))))
        · intro a W L N hR hold hφ hcl hkp hd K hK
          have e11 := hold 11 (by kernel_rfl)
          clear hold hφ hcl hkp hd
          rw [if_pos (by rfl)]
          go_simp
          exact hK _ _ (Only.refl _ _) rfl
        · intro a W L N hR hold hφ hcl hkp hd K hK
          have e10 := hold 10 (by kernel_rfl)
          clear hold hφ hcl hkp hd
          rw [if_pos (by rfl)]
          go_simp
          exact hK _ _ (Only.refl _ _) rfl
        · intro a W L N hR hold hφ hcl hkp hd K hK
          have e12 := hold 12 (by kernel_rfl)
          clear hold hφ hcl hkp hd
          rw [if_pos (by rfl)]
          go_simp
          exact hK _ _ (Only.refl _ _) rfl
        · intro a W L N hR hold hφ hcl hkp hd K hK
          have e36 := got hφ (hd 1 (by kernel_rfl)) rfl rfl rfl
          have e37 := got hφ (hd 2 (by kernel_rfl)) rfl rfl rfl
          clear hold hφ hcl hkp hd
          rw [if_pos (by rfl)]
          go_simp
          exact hK _ _ (Only.refl _ _) rfl
        · intro a W L N hR hold hφ hcl hkp hd K hK
          have e38 := got hφ (hd 3 (by kernel_rfl)) rfl rfl rfl
          clear hold hφ hcl hkp hd
          rw [if_pos (by rfl)]
          go_simp
          exact hK _ _ (Only.refl _ _) rfl
        · intro a W L N hR hold hφ hcl hkp hd K hK
          have e39 := got hφ (hd 4 (by kernel_rfl)) rfl rfl rfl
          have hcl0 := Hld.out W (Only.plus hdr hR)
          clear hold hφ hcl hkp hd
          rw [if_pos (by rfl)]
          go_simp
          exact hK _ _ (Only.refl _ _) rfl
        · intro a W L N hR hold hφ hcl hkp hd K hK
          have e10 := hold 10 (by kernel_rfl)
          clear hold hφ hcl hkp hd
          rw [if_pos (by rfl)]
          go_simp
          exact hK _ _ (Only.refl _ _) rfl
        · intro a W L N hR hold hφ hcl hkp hd K hK
          have e12 := hold 12 (by kernel_rfl)
          clear hold hφ hcl hkp hd
          rw [if_pos (by rfl)]
          go_simp
          exact hK _ _ (Only.refl _ _) rfl
        · intro a W L N hR hold hφ hcl hkp hd K hK
          have e41 := got hφ (hd 6 (by kernel_rfl)) rfl rfl rfl
          have e42 := got hφ (hd 7 (by kernel_rfl)) rfl rfl rfl
          clear hold hφ hcl hkp hd
          rw [if_pos (by rfl)]
          go_simp
          exact hK _ _ (Only.refl _ _) rfl
        · intro a W L N hR hold hφ hcl hkp hd K hK
          have e43 := got hφ (hd 8 (by kernel_rfl)) rfl rfl rfl
          clear hold hφ hcl hkp hd
          rw [if_pos (by rfl)]
          go_simp
          exact hK _ _ (Only.refl _ _) rfl
        · intro a W L N hR hold hφ hcl hkp hd K hK
          have e44 := got hφ (hd 9 (by kernel_rfl)) rfl rfl rfl
          have hcl0 := Hld.out W (Only.plus hdr hR)
          clear hold hφ hcl hkp hd
          rw [if_pos (by rfl)]
          go_simp
          exact hK _ _ (Only.refl _ _) rfl
        · intro a W L N hR hold hφ hcl hkp hd K hK
          have e40 := got hφ (hd 5 (by kernel_rfl)) rfl rfl rfl
          have e45 := got hφ (hd 10 (by kernel_rfl)) rfl rfl rfl
          clear hold hφ hcl hkp hd
          rw [if_pos (by rfl)]
          go_simp
          exact hK _ _ (Only.refl _ _) rfl
        · intro a W L N hR hold hφ hcl hkp hd K hK
          have e46 := got hφ (hd 11 (by kernel_rfl)) rfl rfl rfl
          clear hold hφ hcl hkp hd
          rw [if_pos (by rfl)]
          go_simp
          exact hK _ _ ((Only.refl _ _).alloc _) ⟨_, rfl, IsBlk.made W _⟩
      · intro us W hO' hus
        obtain ⟨q47, p47, b47⟩ := hus 12 _ 47 (by omega) rfl rfl
        have q35 : us 0 = u11 := hus 0 _ 35 (by omega) rfl rfl
        clear hus
        simp only [List.take_succ_cons, List.take_zero, List.drop_succ_cons, List.drop_zero, fillAct, Act.put, List.setIfInBounds_toArray, List.set_cons_zero, List.set_cons_succ, Nat.reduceAdd, p47, q35]
        clear p47 q35
        have hOW := Only.plus hdr hO'
        have HOW := Lib.hid hOW
        have hsW : w4.heap.size ≤ W.heap.size := (HO.out.plus hOW).size
        have d0 := b47.cell 0
        have d1 := b47.cell 1
        clear hO' hOW
        go_wp2_with
         (at_builtin
          refine wpList_append_e rfl _ _ rfl w4.heap.size u11 ((turnE (edges8 n ns)).take k) rfl (owns_off How.out HOW.out (by simp)) q47 1 (yb, ya) rfl d0 d1 htl hsW ?_
          intro v' w5 k5 kO)
        go_roundw
        case rel => exact ⟨k + 1, by go_num, by omega, by rw [Htk.out]; exact k5, (HO.out.plus HOW.out).then kO [] (by simp) (fun i hi => .inr (World.ownsRow.lt How.out i (mem_ownL.1 hi)).1)⟩
        case measure => simp [intOf]; omega
    · obtain rfl : k = (edges8 n ns).length := by omega
      have hki : ¬ ((edges8 n ns).length : Int) < ((edges8 n ns).length : Int) := by omega
      go_wp2_with fail
      have HuE' := HuE.out
      obtain ⟨ad, c', eq', hsrc⟩ := HuE'.src
      injection eq' with e1 e2 e3
      subst e1
      subst e3
      have HSrc : Hid (∀ W, Only [] wr W → (aE = none ∧ (edges8 n ns).length = 0 ∧ cE = 0) ∨ ∃ A, aE = some A ∧ ∀ (j : Nat) (u : Value), (ecells (edges8 n ns))[j]? = some u → W.cell? (A.add j) = some u) := Lib.hid (fun W hW => by
        rcases hsrc with h | ⟨g, h1, h2, h3⟩
        · exact .inl h
        · refine .inr ⟨_, h1, fun j u hu => ?_⟩
          rw [Addr.add_mid]
          have := h3 j u hu
          rw [Addr.add_mid] at this
          exact ((HO.out.plus hW).cell (p := ⟨g, 0 + j, none⟩) h2 (by simp)).trans this)
      have HvC := Hv.out
      obtain ⟨aN', cN', eN, hNc⟩ := HvC
      injection eN with e4 e5 e6
      subst e4
      subst e6
      obtain ⟨gN, rfl, hgN, hcN⟩ := hNc (by rw [abc8_len]; omega)
      obtain ⟨ka, hka⟩ : ∃ ka, ka = inM ia (n : Int).toNat := ⟨_, rfl⟩
      obtain ⟨kb, hkb⟩ : ∃ kb, kb = inM ib (n : Int).toNat := ⟨_, rfl⟩
      have hkan : ka < n := by have := inM_lt ia (n : Int).toNat (by omega); omega
      have hkbn : kb < n := by have := inM_lt ib (n : Int).toNat (by omega); omega
      have HWa : Hid (∀ W : World, Calls Try.prog 11 #[.int .i64 ia, .int .i64 n] W fun e w' => e = .returned (.int .i64 (ka : Nat)) ∧ W = w') := Lib.hid (fun W => by rw [hka]; exact within8_to W ia n (by omega) (by omega))
      have HWb : Hid (∀ W : World, Calls Try.prog 11 #[.int .i64 ib, .int .i64 n] W fun e w' => e = .returned (.int .i64 (kb : Nat)) ∧ W = w') := Lib.hid (fun W => by rw [hkb]; exact within8_to W ib n (by omega) (by omega))
      have hnl : (abc8 n).length = n := abc8_len n
      have HP : Hid (∀ W, Only [] wr W → ∀ v F, EdgesAt W v F → F.length ≤ 41 → (∀ e ∈ F, e.1.length ≤ 100000 ∧ e.2.length ≤ 100000) → Calls Try.prog 13 #[.slice (some ⟨gN, 0, none⟩) (abc8 n).length cv, v] W fun e w' => ∃ v', e = .returned v' ∧ RowsN w' W.heap.size v' (outR (abc8 n) (allE (abc8 n) F) (abc8 n).length) ∧ Only [] W w') := Lib.hid (fun W hW v F hF hl hsm => by
        refine (parts8_any W _ v (abc8 n) F (Hv.out.more (HO.out.plus hW)) hF (abc8_nodup n (by omega)) (by omega) (abc8_small n) (by omega) hsm).mono ?_
        rintro e w' ⟨v', rfl, hr, hO'⟩
        rw [partsM_outR _ _ (abc8_rise n (by omega))] at hr
        exact ⟨v', rfl, hr, hO'⟩)
      have HS : Hid (∀ W, Only [] wr W → W.cell? ⟨gN, ka, none⟩ = some (.string ⟨(let8 ka).toArray⟩) ∧ W.cell? ⟨gN, kb, none⟩ = some (.string ⟨(let8 kb).toArray⟩)) := Lib.hid (fun W hW => ⟨((HO.out.plus hW).cell (p := ⟨gN, ka, none⟩) hgN (by simp)).trans (hcN ka _ (abc8_get n ka hkan)), ((HO.out.plus hW).cell (p := ⟨gN, kb, none⟩) hgN (by simp)).trans (hcN kb _ (abc8_get n kb hkbn))⟩)
      have HsmE := Lib.hid (edges8_small n ns)
      have HsmM : Hid (∀ e ∈ (edges8 n ns ++ [(let8 ka, let8 kb)]), e.1.length ≤ 100000 ∧ e.2.length ≤ 100000) := Lib.hid (fun e he => by
        rcases List.mem_append.1 he with he | he
        · exact edges8_small n ns e he
        · simp at he; subst he; simp [let8])
      have HsmT : Hid (∀ e ∈ turnE (edges8 n ns), e.1.length ≤ 100000 ∧ e.2.length ≤ 100000) := Lib.hid (fun e he => by
        unfold turnE at he
        obtain ⟨x, hx, rfl⟩ := List.mem_map.1 he
        have := edges8_small n ns x hx
        exact ⟨this.2, this.1⟩)
      have hkl1 : (ka : Int) < ((abc8 n).length : Int) := by omega
      have hkl2 : (kb : Int) < ((abc8 n).length : Int) := by omega
      have hk1 : (0 : Int) ≤ (ka : Int) := by omega
      have hk2 : (0 : Int) ≤ (kb : Int) := by omega
      have Hnl := Lib.hid hnl
      have How' := How
      rw [show (edges8 n ns).length = (turnE (edges8 n ns)).length by rw [turnE_len], List.take_length] at How'
      have HBk := Lib.hid How'.out.edges
      clear hsrc hcN hka hkb hNc hnl How' e2 e5
      go_upto_region 10 with fail
      have hOA : Only [] wr wr.drew := (Only.refl [] wr).drew
      have hOB : Only [] wr (wr.alloc (.cells #[] 35)).drew := ((Only.refl [] wr).alloc _).drew
      have HOA := Lib.hid hOA
      have HOB := Lib.hid hOB
      have HEB : Hid (IsBlk (wr.alloc (.cells #[] 35)).drew wr.heap.size (.cells #[] 35)) := Lib.hid ((IsBlk.made wr _).drew)
      have hSA := HS.out _ hOA
      have hSB := HS.out _ hOB
      have hSC := HS.out wr (Only.refl _ _)
      clear hOA hOB
      go_region_held3 (fun W => W.cell? ⟨gN, ka, none⟩ = some (.string ⟨(let8 ka).toArray⟩) ∧ W.cell? ⟨gN, kb, none⟩ = some (.string ⟨(let8 kb).toArray⟩)) (first | exact hSA | exact hSB | assumption | exact HS.out _ (by assumption) | exact HS.out _ (Only.alloc (by assumption) _))
        (first
          | (go_at_call 13
             with_reducible refine (HP.out w6 hw6 v6 (edges8 n ns ++ [(let8 ka, let8 kb)]) h6.edges (by simp; omega) HsmM.out).mono ?_
             rintro e w7 ⟨vq, rfl, hq7, hO7⟩
             have hw7 : Only [] wr w7 := Only.plus hw6 hO7
             have hp7 := hrow w7 (hx6.plus hO7)
             have hS7 := HS.out w7 hw7)
          | (rw [if_pos (by rfl)]
             have hO5a : Only [] w5 (w5.alloc (.cells #[.string ⟨(let8 ka).toArray⟩, .string ⟨(let8 kb).toArray⟩] 35)) := (Only.refl [] w5).alloc _
             have h5a : OwnE (w5.alloc (.cells #[.string ⟨(let8 ka).toArray⟩, .string ⟨(let8 kb).toArray⟩] 35)) wr.heap.size v5 (edges8 n ns) := owns_off h5 hO5a (by simp)
             have hb5 := IsBlk.made w5 (.cells #[.string ⟨(let8 ka).toArray⟩, .string ⟨(let8 kb).toArray⟩] 35)
             have hw5a : wr.heap.size ≤ (w5.alloc (.cells #[.string ⟨(let8 ka).toArray⟩, .string ⟨(let8 kb).toArray⟩] 35)).heap.size := (Only.plus hw5 hO5a).size
             refine wp_append_e8 _ _ rfl wr.heap.size v5 (edges8 n ns) rfl h5a (some ⟨w5.heap.size, 0, none⟩) 1 1 [(let8 ka, let8 kb)] rfl rfl (.inr ⟨_, rfl, one_ecells hb5⟩) (by omega) (by simp) hw5a ?_
             intro v6 w6 h6 hO6 hT6
             have hw6 : Only [] wr w6 := (hw5.alloc _).then hO6 [] (by simp) (fun i hi => .inr (World.ownsRow.lt h5 i (mem_ownL.1 hi)).1)
             have hx6 : Only S1 w1' w6 := (hx5.alloc _).then hO6 S1 (fun i hi => .inl hi) (fun i hi => hge5 i (mem_ownL.1 hi))
             have hS6 := HS.out w6 hw6)
          | (go_at_call 11
             with_reducible refine (HWa.out _).mono ?_
             rintro e w' ⟨rfl, rfl⟩)
          | (go_at_call 11
             with_reducible refine (HWb.out _).mono ?_
             rintro e w' ⟨rfl, rfl⟩)
          | (rw [if_pos (by rfl)]
             have hE1' : IsBlk w1' wr.heap.size (.cells #[] 35) := hE1
             have hO1b : Only [] wr w1' := hw1
             have hxb : Only S1 w1' w1' := Only.refl _ _
             refine wp_append_e8 _ _ rfl wr.heap.size (.slice (some ⟨wr.heap.size, 0, none⟩) 0 0) [] rfl (ownE_void (by have := hw1.size; omega) hE1') aE (edges8 n ns).length cE (edges8 n ns) rfl rfl (HSrc.out w1' hO1b) (by simp) (by omega) hO1b.size ?_
             intro v5 w5 h5 hO5 hT5
             have hw5 : Only [] wr w5 := hO1b.then hO5 [] (by simp) (fun i hi => .inr (by simp [ownL, Value.ownBlock] at hi; have := hw1.size; omega))
             have hx5 : Only S1 w1' w5 := hxb.then hO5 S1 (fun i hi => .inl hi) (fun i hi => by
               simp [ownL, Value.ownBlock] at hi
               subst hi
               exact .inl hq)
             have hge5 : ∀ i, v5.ownBlock = some i → i ∈ S1 ∨ w1'.heap.size ≤ i := fun i hi => by
               rcases hT5 with e | e
               · rw [e] at hi
                 injection hi with hi
                 exact .inl (hi ▸ hq)
               · rw [e] at hi
                 injection hi with hi
                 exact .inr (by omega)
             have hS5 := HS.out w5 hw5)
          | (rw [if_pos (by rfl)]
             have hE1' : IsBlk (w1'.alloc (.cells #[] 35)) w1'.heap.size (.cells #[] 35) := (IsBlk.made w1' _)
             have hO1b : Only [] wr (w1'.alloc (.cells #[] 35)) := Only.alloc hw1 _
             have hxb : Only S1 w1' (w1'.alloc (.cells #[] 35)) := (Only.refl _ _).alloc _
             refine wp_append_e8 _ _ rfl wr.heap.size (.slice (some ⟨w1'.heap.size, 0, none⟩) 0 0) [] rfl (ownE_void (by have := hw1.size; omega) hE1') aE (edges8 n ns).length cE (edges8 n ns) rfl rfl (HSrc.out (w1'.alloc (.cells #[] 35)) hO1b) (by simp) (by omega) hO1b.size ?_
             intro v5 w5 h5 hO5 hT5
             have hw5 : Only [] wr w5 := hO1b.then hO5 [] (by simp) (fun i hi => .inr (by simp [ownL, Value.ownBlock] at hi; have := hw1.size; omega))
             have hx5 : Only S1 w1' w5 := hxb.then hO5 S1 (fun i hi => .inl hi) (fun i hi => by
               simp [ownL, Value.ownBlock] at hi
               subst hi
               exact .inr (Nat.le_refl _))
             have hge5 : ∀ i, v5.ownBlock = some i → i ∈ S1 ∨ w1'.heap.size ≤ i := fun i hi => by
               rcases hT5 with e | e
               · rw [e] at hi
                 injection hi with hi
                 first | exact .inr (by omega) | exact .inr (Nat.le_of_eq hi) | (simp [Value.ownBlock] at hi; exact .inr (by omega))
               · rw [e] at hi
                 injection hi with hi
                 simp at hi; exact .inr (by omega)
             have hS5 := HS.out w5 hw5)
          | (go_at_call 13
             with_reducible refine (HP.out wr.drew HOA.out _ (edges8 n ns) (Hu.out.more (HO.out.plus HOA.out)) (by omega) HsmE.out).mono ?_
             rintro e w1' ⟨vp, rfl, hp1, hO1'⟩
             have hw1 : Only [] wr w1' := Only.plus HOA.out hO1'
             have hS1 := HS.out w1' hw1
             obtain ⟨S1, hrow⟩ : ∃ S1 : List Nat, ∀ W', Only S1 w1' W' → NamssAt W' vp (outR (abc8 n) (allE (abc8 n) (edges8 n ns)) (abc8 n).length) := ⟨[], fun W' hW' => (RowsN.off hp1 hW' (fun b hb hm => by simp at hm)).namss⟩)
          | (go_at_call 13
             with_reducible refine (HP.out (wr.alloc (.cells #[] 35)).drew HOB.out _ (edges8 n ns) (Hu.out.more (HO.out.plus HOB.out)) (by omega) HsmE.out).mono ?_
             rintro e w1' ⟨vp, rfl, hp1, hO1'⟩
             have hw1 : Only [] wr w1' := Only.plus HOB.out hO1'
             have hS1 := HS.out w1' hw1
             have hE1 := IsBlk.only HEB.out hO1' (by simp)
             obtain ⟨S1, hq, hrow⟩ : ∃ S1 : List Nat, wr.heap.size ∈ S1 ∧ ∀ W', Only S1 w1' W' → NamssAt W' vp (outR (abc8 n) (allE (abc8 n) (edges8 n ns)) (abc8 n).length) := ⟨[wr.heap.size], by simp, fun W' hW' => (RowsN.off hp1 hW' (fun b hb hm => by simp at hb hm; omega)).namss⟩))
      all_goals
        have HBk7 : Hid (EdgesAt w7 u11 (turnE (edges8 n ns))) := Lib.hid (HBk.out.more hw7)
        have HP7 := Lib.hid hp7
        have HQ7 := Lib.hid hq7.namss
        have HOw7 := Lib.hid (HO2.out.plus (HO.out.plus hw7))
        have hfew := outR_fewer (N := abc8 n) (allE_more (N := abc8 n) (E := edges8 n ns) (let8 ka, let8 kb)) (abc8 n).length
        have HJ := Lib.hid (outR_join (N := abc8 n) (allE_more (N := abc8 n) (E := edges8 n ns) (let8 ka, let8 kb)))
        have hPl := outR_len (abc8 n) (allE (abc8 n) (edges8 n ns)) (abc8 n).length
        have HPs := Lib.hid (outR_small (abc8 n) (allE (abc8 n) (edges8 n ns)) (abc8 n).length)
        have HQs := Lib.hid (outR_small (abc8 n) (allE (abc8 n) (edges8 n ns ++ [(let8 ka, let8 kb)])) (abc8 n).length)
        have hPb := HP.out w7 hw7 u11 (turnE (edges8 n ns)) HBk7.out (by rw [turnE_len]; omega) HsmT.out
        rw [outR_turn] at hPb
        have HPb := Lib.hid hPb
        clear hPb hp7 hq7 HP HS hS7 hw7 hO7 hS6 hw6 hx6 hS5 hw5 hx5 hge5 hT5 hT6 hO6 h6 h5 hO5 hE1' hO1b hxb hS1 hw1 hrow hp1 hO1' hSA hSB hSC hO5a h5a hb5 hw5a
        generalize outR (abc8 n) (allE (abc8 n) (edges8 n ns)) (abc8 n).length = P at *
        generalize outR (abc8 n) (allE (abc8 n) (edges8 n ns ++ [(let8 ka, let8 kb)])) (abc8 n).length = Q at *
        have HPc := HP7.out
        have HQc := HQ7.out
        obtain ⟨aP, cP, rfl, hPc⟩ := HPc
        obtain ⟨aQ, cQ, rfl, hQc⟩ := HQc
        have HPc := Lib.hid hPc
        have HQc := Lib.hid hQc
        clear hPc hQc
        have hnq : ¬ ((P.length : Int) < (Q.length : Int)) := by omega
        go_wp2_with fail
        refine (HPb.out).mono ?_
        rintro e w8 ⟨vb, rfl, hb8, hO8⟩
        have Hb8 := Lib.hid hb8.namss
        have HO8 := Lib.hid hO8
        clear hb8 hO8
        go_wp2_with fail
        refine (all8_any w8 vb (.slice aP P.length cP) P P Hb8.out (HP7.out.more HO8.out) (by omega) (by omega) (fun p hp => by have := HPs.out p hp; omega) (fun p hp => by have := HPs.out p hp; omega)).mono ?_
        rintro e w9 ⟨rfl, hO9⟩
        rw [show decide (P = P) = true by simp]
        have HO9 := Lib.hid (HO8.out.plus hO9)
        clear hO9
        go_wp2_with fail
        go_loopw [15] (fun s15 wr => ∃ i : Nat, s15 = .int .i64 i ∧ i ≤ P.length ∧ Only [] w9 wr) (fun s15 _ => P.length - (intOf s15).toNat)
        case atStart => exact ⟨0, rfl, Nat.zero_le _, Only.refl _ _⟩
        case round =>
          obtain ⟨i, rfl, hi, hOi⟩ := hrel
          have HOi := Lib.hid hOi
          clear hOi
          by_cases hlt : i < P.length
          · have hii : (i : Int) < (P.length : Int) := by omega
            have hi0 : (0 : Int) ≤ (i : Int) := by omega
            obtain ⟨p, hp⟩ : ∃ p, P[i]? = some p := ⟨P[i], by simp [hlt]⟩
            obtain ⟨x, hx, hex, hall⟩ := HJ.out p (List.mem_of_getElem? hp)
            have hpl : p.length ≤ 9 := by have := HPs.out p (List.mem_of_getElem? hp); omega
            have hp0 : 0 < p.length := by
              have := (List.getElem?_eq_some_iff.1 hx).1
              omega
            obtain ⟨gP, up, rfl, hgP, hcP, hup⟩ := HPc.out i p hp
            obtain ⟨ap, cp, rfl, hpc⟩ := hup
            obtain ⟨g1, rfl, hg1, hc1⟩ := hpc hp0
            have Hcl : Hid (∀ W, Only [] w9 W → W.cell? ⟨gP, i, none⟩ = some (.slice (some ⟨g1, 0, none⟩) p.length cp) ∧ ∀ (j : Nat) (t : Nam), p[j]? = some t → W.cell? ⟨g1, j, none⟩ = some (.string ⟨t.toArray⟩)) := Lib.hid (fun W hW => ⟨((HO9.out.plus hW).cell (p := ⟨gP, i, none⟩) hgP (by simp)).trans hcP, fun j t ht => ((HO9.out.plus hW).cell (p := ⟨g1, j, none⟩) hg1 (by simp)).trans (hc1 j t ht)⟩)
            have Hx := Lib.hid hx
            have Hex := Lib.hid hex
            have Hall := Lib.hid hall
            have hpz : ((p.length : Int) == 0) = false := by rw [beq_eq_false_iff_ne]; omega
            have hpp : (0 : Int) < (p.length : Int) := by omega
            clear hp hx hex hall hcP hc1 hpc
            go_wp2_with fail
            go_loopw [16] (fun s16 wr => ∃ k : Nat, s16 = .int .i64 k ∧ k ≤ Q.length ∧ (∀ (j : Nat) (q : List Nam), j < k → Q[j]? = some q → x ∉ q) ∧ Only [] w9 wr) (fun s16 _ => Q.length - (intOf s16).toNat)
            case atStart => exact ⟨0, rfl, Nat.zero_le _, fun j q h => by omega, HOi.out⟩
            case round =>
              obtain ⟨k, rfl, hk, hno, hOk⟩ := hrel
              have Hno := Lib.hid hno
              have HOk := Lib.hid hOk
              clear hno hOk
              have hkq : k < Q.length := by
                obtain ⟨q, hq, hxq⟩ := Hex.out
                obtain ⟨j, hj⟩ := List.mem_iff_getElem?.1 hq
                have hjl := (List.getElem?_eq_some_iff.1 hj).1
                by_cases hjk : j < k
                · exact absurd hxq (Hno.out j q hjk hj)
                · omega
              have hkk : (k : Int) < (Q.length : Int) := by omega
              have hk0 : (0 : Int) ≤ (k : Int) := by omega
              obtain ⟨q, hq⟩ : ∃ q, Q[k]? = some q := ⟨Q[k], by simp [hkq]⟩
              have hql : q.length ≤ 9 := by have := HQs.out q (List.mem_of_getElem? hq); omega
              obtain ⟨gQ, uq, rfl, hgQ, hcQ, huq⟩ := HQc.out k q hq
              have huq' := huq
              obtain ⟨aq, cq, rfl, -⟩ := huq'
              have Hcq : Hid (∀ W, Only [] w9 W → W.cell? ⟨gQ, k, none⟩ = some (.slice aq q.length cq)) := Lib.hid (fun W hW => ((HO9.out.plus hW).cell (p := ⟨gQ, k, none⟩) hgQ (by simp)).trans hcQ)
              have Hq := Lib.hid hq
              have HqQ := Lib.hid (List.mem_of_getElem? hq)
              have HIn : Hid (∀ W, Only [] w9 W → ∀ t, Calls Try.prog 27 #[.slice aq q.length cq, .string ⟨t.toArray⟩] W fun e w' => e = .returned (.bool (decide (t ∈ q))) ∧ W = w') := Lib.hid (fun W hW t => in8_any W _ q t (huq.more (HO9.out.plus hW)) (by omega))
              have hdr : Only [] wr wr.drew := (Only.refl [] wr).drew
              have hg9 : gP < w9.heap.size ∧ g1 < w9.heap.size ∧ gQ < w9.heap.size := by have := HO9.out.size; omega
              obtain ⟨bq, hbq⟩ : ∃ bq, bq = decide (x ∈ q) := ⟨_, rfl⟩
              have Hbq := Lib.hid hbq
              clear hq hcQ huq hbq
              go_wp2_with fail
              go_upto_region 17 with fail
              refine wp_region_stabL (P := Try.prog) 26 (by kernel_rfl) (by kernel_rfl) (Only []) (Only.refl _ _) (fun _ _ _ h k => h.then k [] (by simp) (by simp))
                [SP.is (.int .i64 k),
                 SP.is (.slice (some ⟨gQ, 0, none⟩) Q.length cQ),
                 SP.is (.int .i64 Q.length),
                 SP.is (.bool true),
                 SP.is (.bool true),
                 SP.is (.slice (some ⟨gP, 0, none⟩) P.length cP),
                 SP.is (.int .i64 i),
                 SP.is (.pointer (some ⟨gP, i, none⟩)),
                 SP.is (.slice (some ⟨g1, 0, none⟩) p.length cp),
                 SP.is (.int .i64 p.length),
                 SP.is (.bool false),
                 SP.is (.bool false),
                 SP.is (.slice (some ⟨gQ, 0, none⟩) Q.length cQ),
                 SP.is (.int .i64 k),
                 SP.is (.pointer (some ⟨gQ, k, none⟩)),
                 SP.is (.slice aq q.length cq),
                 SP.is (.slice (some ⟨gP, 0, none⟩) P.length cP),
                 SP.is (.int .i64 i),
                 SP.is (.pointer (some ⟨gP, i, none⟩)),
                 SP.is (.slice (some ⟨g1, 0, none⟩) p.length cp),
                 SP.is (.pointer (some ⟨g1, 0, none⟩)),
                 SP.is (.string ⟨x.toArray⟩),
                 SP.is (.bool bq),
                 SP.is (.bool (!bq)),
                 SP.is (.bool (!bq)),
                 SP.is (.bool (!bq))] ?_ ?_
              · simp only [List.take_succ_cons, List.take_zero]
                refine StepsOK.cons ?_ (StepsOK.cons ?_ (StepsOK.cons ?_ (StepsOK.cons ?_ (StepsOK.cons ?_ (StepsOK.cons ?_ (StepsOK.cons ?_ (StepsOK.cons ?_ (StepsOK.cons ?_ (StepsOK.cons ?_ (StepsOK.cons ?_ (StepsOK.cons ?_ (StepsOK.cons ?_ (StepsOK.cons ?_ (StepsOK.cons ?_ (StepsOK.cons ?_ (StepsOK.cons ?_ (StepsOK.cons ?_ (StepsOK.cons ?_ (StepsOK.cons ?_ (StepsOK.cons ?_ (StepsOK.cons ?_ (StepsOK.cons ?_ (StepsOK.cons ?_ (StepsOK.cons ?_ (StepsOK.cons ?_ StepsOK.nil)))))))))))))))))))))))))
                · intro a W L N hR hold hφ hcl hkp hd K hK
                  have e16 := hold 16 (by kernel_rfl)
                  clear hold hφ hcl hkp hd
                  rw [if_pos (by rfl)]
                  go_simp
                  exact hK _ _ (Only.refl _ _) rfl
                · intro a W L N hR hold hφ hcl hkp hd K hK
                  have e14 := hold 14 (by kernel_rfl)
                  clear hold hφ hcl hkp hd
                  rw [if_pos (by rfl)]
                  go_simp
                  exact hK _ _ (Only.refl _ _) rfl
                · intro a W L N hR hold hφ hcl hkp hd K hK
                  have e92 := got hφ (hd 1 (by kernel_rfl)) rfl rfl rfl
                  clear hold hφ hcl hkp hd
                  rw [if_pos (by rfl)]
                  go_simp
                  exact hK _ _ (Only.refl _ _) rfl
                · intro a W L N hR hold hφ hcl hkp hd K hK
                  have e91 := got hφ (hd 0 (by kernel_rfl)) rfl rfl rfl
                  have e93 := got hφ (hd 2 (by kernel_rfl)) rfl rfl rfl
                  clear hold hφ hcl hkp hd
                  rw [if_pos (by rfl)]
                  go_simp
                  exact hK _ _ (Only.refl _ _) rfl
                · intro a W L N hR hold hφ hcl hkp hd K hK
                  have e94 := got hφ (hd 3 (by kernel_rfl)) rfl rfl rfl
                  clear hold hφ hcl hkp hd
                  rw [if_pos (by rfl)]
                  go_simp
                  exact hK _ _ (Only.refl _ _) rfl
                · intro a W L N hR hold hφ hcl hkp hd K hK
                  have e13 := hold 13 (by kernel_rfl)
                  have e95 := got hφ (hd 4 (by kernel_rfl)) rfl rfl rfl
                  clear hold hφ hcl hkp hd
                  rw [if_pos (by simp [Region.wanted, yielded, e95])]
                  go_simp
                  exact hK _ _ (Only.refl _ _) rfl
                · intro a W L N hR hold hφ hcl hkp hd K hK
                  have e15 := hold 15 (by kernel_rfl)
                  have e95 := got hφ (hd 4 (by kernel_rfl)) rfl rfl rfl
                  clear hold hφ hcl hkp hd
                  rw [if_pos (by simp [Region.wanted, yielded, e95])]
                  go_simp
                  exact hK _ _ (Only.refl _ _) rfl
                · intro a W L N hR hold hφ hcl hkp hd K hK
                  have e96 := got hφ (hd 5 (by kernel_rfl)) rfl rfl rfl
                  have e97 := got hφ (hd 6 (by kernel_rfl)) rfl rfl rfl
                  have e95 := got hφ (hd 4 (by kernel_rfl)) rfl rfl rfl
                  clear hold hφ hcl hkp hd
                  rw [if_pos (by simp [Region.wanted, yielded, e95])]
                  go_simp
                  exact hK _ _ (Only.refl _ _) rfl
                · intro a W L N hR hold hφ hcl hkp hd K hK
                  have e98 := got hφ (hd 7 (by kernel_rfl)) rfl rfl rfl
                  have e95 := got hφ (hd 4 (by kernel_rfl)) rfl rfl rfl
                  have hW9 := HOk.out.plus (Only.plus hdr hR)
                  have hcl0 := (Hcl.out W hW9).1
                  have hcl1 := (Hcl.out W hW9).2 0 x Hx.out
                  have hcl2 := Hcq.out W hW9
                  have hsz := hW9.size
                  have hb1 : gP < W.heap.size := by omega
                  have hb2 : g1 < W.heap.size := by omega
                  have hb3 : gQ < W.heap.size := by omega
                  clear hold hφ hcl hkp hd
                  rw [if_pos (by simp [Region.wanted, yielded, e95])]
                  go_simp
                  exact hK _ _ (Only.refl _ _) rfl
                · intro a W L N hR hold hφ hcl hkp hd K hK
                  have e99 := got hφ (hd 8 (by kernel_rfl)) rfl rfl rfl
                  have e95 := got hφ (hd 4 (by kernel_rfl)) rfl rfl rfl
                  clear hold hφ hcl hkp hd
                  rw [if_pos (by simp [Region.wanted, yielded, e95])]
                  go_simp
                  exact hK _ _ (Only.refl _ _) rfl
                · intro a W L N hR hold hφ hcl hkp hd K hK
                  have e100 := got hφ (hd 9 (by kernel_rfl)) rfl rfl rfl
                  have e95 := got hφ (hd 4 (by kernel_rfl)) rfl rfl rfl
                  clear hold hφ hcl hkp hd
                  rw [if_pos (by simp [Region.wanted, yielded, e95])]
                  go_simp
                  exact hK _ _ (Only.refl _ _) rfl
                · intro a W L N hR hold hφ hcl hkp hd K hK
                  have e101 := got hφ (hd 10 (by kernel_rfl)) rfl rfl rfl
                  have e95 := got hφ (hd 4 (by kernel_rfl)) rfl rfl rfl
                  clear hold hφ hcl hkp hd
                  rw [if_pos (by simp [Region.wanted, yielded, e95])]
                  go_simp
                  exact hK _ _ (Only.refl _ _) rfl
                · intro a W L N hR hold hφ hcl hkp hd K hK
                  have e14 := hold 14 (by kernel_rfl)
                  have e102 := got hφ (hd 11 (by kernel_rfl)) rfl rfl rfl
                  clear hold hφ hcl hkp hd
                  rw [if_pos (by simp [Region.wanted, yielded, e102])]
                  go_simp
                  exact hK _ _ (Only.refl _ _) rfl
                · intro a W L N hR hold hφ hcl hkp hd K hK
                  have e16 := hold 16 (by kernel_rfl)
                  have e102 := got hφ (hd 11 (by kernel_rfl)) rfl rfl rfl
                  clear hold hφ hcl hkp hd
                  rw [if_pos (by simp [Region.wanted, yielded, e102])]
                  go_simp
                  exact hK _ _ (Only.refl _ _) rfl
                · intro a W L N hR hold hφ hcl hkp hd K hK
                  have e103 := got hφ (hd 12 (by kernel_rfl)) rfl rfl rfl
                  have e104 := got hφ (hd 13 (by kernel_rfl)) rfl rfl rfl
                  have e102 := got hφ (hd 11 (by kernel_rfl)) rfl rfl rfl
                  clear hold hφ hcl hkp hd
                  rw [if_pos (by simp [Region.wanted, yielded, e102])]
                  go_simp
                  exact hK _ _ (Only.refl _ _) rfl
                · intro a W L N hR hold hφ hcl hkp hd K hK
                  have e105 := got hφ (hd 14 (by kernel_rfl)) rfl rfl rfl
                  have e102 := got hφ (hd 11 (by kernel_rfl)) rfl rfl rfl
                  have hW9 := HOk.out.plus (Only.plus hdr hR)
                  have hcl0 := (Hcl.out W hW9).1
                  have hcl1 := (Hcl.out W hW9).2 0 x Hx.out
                  have hcl2 := Hcq.out W hW9
                  have hsz := hW9.size
                  have hb1 : gP < W.heap.size := by omega
                  have hb2 : g1 < W.heap.size := by omega
                  have hb3 : gQ < W.heap.size := by omega
                  clear hold hφ hcl hkp hd
                  rw [if_pos (by simp [Region.wanted, yielded, e102])]
                  go_simp
                  exact hK _ _ (Only.refl _ _) rfl
                · intro a W L N hR hold hφ hcl hkp hd K hK
                  have e13 := hold 13 (by kernel_rfl)
                  have e102 := got hφ (hd 11 (by kernel_rfl)) rfl rfl rfl
                  clear hold hφ hcl hkp hd
                  rw [if_pos (by simp [Region.wanted, yielded, e102])]
                  go_simp
                  exact hK _ _ (Only.refl _ _) rfl
                · intro a W L N hR hold hφ hcl hkp hd K hK
                  have e15 := hold 15 (by kernel_rfl)
                  have e102 := got hφ (hd 11 (by kernel_rfl)) rfl rfl rfl
                  clear hold hφ hcl hkp hd
                  rw [if_pos (by simp [Region.wanted, yielded, e102])]
                  go_simp
                  exact hK _ _ (Only.refl _ _) rfl
                · intro a W L N hR hold hφ hcl hkp hd K hK
                  have e107 := got hφ (hd 16 (by kernel_rfl)) rfl rfl rfl
                  have e108 := got hφ (hd 17 (by kernel_rfl)) rfl rfl rfl
                  have e102 := got hφ (hd 11 (by kernel_rfl)) rfl rfl rfl
                  clear hold hφ hcl hkp hd
                  rw [if_pos (by simp [Region.wanted, yielded, e102])]
                  go_simp
                  exact hK _ _ (Only.refl _ _) rfl
                · intro a W L N hR hold hφ hcl hkp hd K hK
                  have e109 := got hφ (hd 18 (by kernel_rfl)) rfl rfl rfl
                  have e102 := got hφ (hd 11 (by kernel_rfl)) rfl rfl rfl
                  have hW9 := HOk.out.plus (Only.plus hdr hR)
                  have hcl0 := (Hcl.out W hW9).1
                  have hcl1 := (Hcl.out W hW9).2 0 x Hx.out
                  have hcl2 := Hcq.out W hW9
                  have hsz := hW9.size
                  have hb1 : gP < W.heap.size := by omega
                  have hb2 : g1 < W.heap.size := by omega
                  have hb3 : gQ < W.heap.size := by omega
                  clear hold hφ hcl hkp hd
                  rw [if_pos (by simp [Region.wanted, yielded, e102])]
                  go_simp
                  exact hK _ _ (Only.refl _ _) rfl
                · intro a W L N hR hold hφ hcl hkp hd K hK
                  have e110 := got hφ (hd 19 (by kernel_rfl)) rfl rfl rfl
                  have e102 := got hφ (hd 11 (by kernel_rfl)) rfl rfl rfl
                  clear hold hφ hcl hkp hd
                  rw [if_pos (by simp [Region.wanted, yielded, e102])]
                  go_simp
                  exact hK _ _ (Only.refl _ _) rfl
                · intro a W L N hR hold hφ hcl hkp hd K hK
                  have e111 := got hφ (hd 20 (by kernel_rfl)) rfl rfl rfl
                  have e102 := got hφ (hd 11 (by kernel_rfl)) rfl rfl rfl
                  have hW9 := HOk.out.plus (Only.plus hdr hR)
                  have hcl0 := (Hcl.out W hW9).1
                  have hcl1 := (Hcl.out W hW9).2 0 x Hx.out
                  have hcl2 := Hcq.out W hW9
                  have hsz := hW9.size
                  have hb1 : gP < W.heap.size := by omega
                  have hb2 : g1 < W.heap.size := by omega
                  have hb3 : gQ < W.heap.size := by omega
                  clear hold hφ hcl hkp hd
                  rw [if_pos (by simp [Region.wanted, yielded, e102])]
                  go_simp
                  exact hK _ _ (Only.refl _ _) rfl
                · intro a W L N hR hold hφ hcl hkp hd K hK
                  have e106 := got hφ (hd 15 (by kernel_rfl)) rfl rfl rfl
                  have e112 := got hφ (hd 21 (by kernel_rfl)) rfl rfl rfl
                  have e102 := got hφ (hd 11 (by kernel_rfl)) rfl rfl rfl
                  have hW9 := HOk.out.plus (Only.plus hdr hR)
                  clear hold hφ hcl hkp hd
                  rw [if_pos (by simp [Region.wanted, yielded, e102])]
                  go_simp
                  refine (HIn.out W hW9 x).mono ?_
                  rintro e w' ⟨rfl, rfl⟩
                  rw [← Hbq.out]
                  exact hK _ _ (Only.refl _ _) rfl
                · intro a W L N hR hold hφ hcl hkp hd K hK
                  have e113 := got hφ (hd 22 (by kernel_rfl)) rfl rfl rfl
                  have e102 := got hφ (hd 11 (by kernel_rfl)) rfl rfl rfl
                  clear hold hφ hcl hkp hd
                  rw [if_pos (by simp [Region.wanted, yielded, e102])]
                  go_simp
                  exact hK _ _ (Only.refl _ _) rfl
                · intro a W L N hR hold hφ hcl hkp hd K hK
                  have e102 := got hφ (hd 11 (by kernel_rfl)) rfl rfl rfl
                  have e114 := got hφ (hd 23 (by kernel_rfl)) rfl rfl rfl
                  have e95 := got hφ (hd 4 (by kernel_rfl)) rfl rfl rfl
                  clear hold hφ hcl hkp hd
                  rw [if_pos (by simp [Region.wanted, yielded, e95])]
                  go_simp
                  exact hK _ _ (Only.refl _ _) rfl
                · intro a W L N hR hold hφ hcl hkp hd K hK
                  have e95 := got hφ (hd 4 (by kernel_rfl)) rfl rfl rfl
                  have e115 := got hφ (hd 24 (by kernel_rfl)) rfl rfl rfl
                  clear hold hφ hcl hkp hd
                  rw [if_pos (by rfl)]
                  go_simp
                  exact hK _ _ (Only.refl _ _) rfl
              · intro us W hO' hus
                have p116 : us 25 = .bool (!bq) := hus 25 _ 116 (by omega) rfl rfl
                clear hus
                simp only [List.take_succ_cons, List.take_zero, List.drop_succ_cons, List.drop_zero, fillAct, Act.put, List.setIfInBounds_toArray, List.set_cons_zero, List.set_cons_succ, Nat.reduceAdd, p116]
                clear p116
                have HOW := Lib.hid (Only.plus hdr hO')
                clear hO'
                cases bq with
                | false =>
                  have Hnx : Hid (x ∉ q) := Lib.hid (of_decide_eq_false Hbq.out.symm)
                  go_wp2_with fail
                  go_roundw
                  case rel => exact ⟨k + 1, by go_num, by omega, fun j q' hj hq' => by
                    by_cases hjk : j = k
                    · subst hjk
                      rw [Hq.out] at hq'
                      injection hq' with hq'
                      subst hq'
                      exact Hnx.out
                    · exact Hno.out j q' (by omega) hq', HOk.out.plus HOW.out⟩
                  case measure => simp [intOf]; omega
                | true =>
                  have Hal : Hid (∀ t ∈ p, t ∈ q) := Lib.hid (Hall.out q HqQ.out (of_decide_eq_true Hbq.out.symm))
                  have hne : ((k : Int) == (Q.length : Int)) = false := by rw [beq_eq_false_iff_ne]; omega
                  have HOW' := Lib.hid (HOk.out.plus HOW.out)
                  go_wp2_with fail
                  go_loopw [17] (fun s17 wz => ∃ j : Nat, s17 = .int .i64 j ∧ j ≤ p.length ∧ Only [] w9 wz) (fun s17 _ => p.length - (intOf s17).toNat)
                  case atStart => exact ⟨0, rfl, Nat.zero_le _, HOW'.out⟩
                  case round =>
                    obtain ⟨j, rfl, hj, hOj⟩ := hrel
                    have HOj := Lib.hid hOj
                    clear hOj
                    have dP := (Hcl.out wr HOj.out).1
                    have hgw : gP < wr.heap.size := by have := HOj.out.size; omega
                    by_cases hjl : j < p.length
                    · have hjj : (j : Int) < (p.length : Int) := by omega
                      have hj0 : (0 : Int) ≤ (j : Int) := by omega
                      obtain ⟨t, ht⟩ : ∃ t, p[j]? = some t := ⟨p[j], by simp [hjl]⟩
                      have Ht := Lib.hid ht
                      have Htq := Lib.hid (Hal.out t (List.mem_of_getElem? ht))
                      have hdr : Only [] wr wr.drew := (Only.refl [] wr).drew
                      clear ht
                      go_wp2_with fail
                      go_upto_region 24 with fail
                      refine wp_region_stabL (P := Try.prog) 13 (by kernel_rfl) (by kernel_rfl) (Only []) (Only.refl _ _) (fun _ _ _ h k => h.then k [] (by simp) (by simp))
                        [SP.is (.slice (some ⟨gQ, 0, none⟩) Q.length cQ),
                         SP.is (.int .i64 k),
                         SP.is (.pointer (some ⟨gQ, k, none⟩)),
                         SP.is (.slice aq q.length cq),
                         SP.is (.slice (some ⟨gP, 0, none⟩) P.length cP),
                         SP.is (.int .i64 i),
                         SP.is (.pointer (some ⟨gP, i, none⟩)),
                         SP.is (.slice (some ⟨g1, 0, none⟩) p.length cp),
                         SP.is (.int .i64 j),
                         SP.is (.pointer (some ⟨g1, j, none⟩)),
                         SP.is (.string ⟨t.toArray⟩),
                         SP.is (.bool true),
                         SP.is (.bool false)] ?_ ?_
                      · simp only [List.take_succ_cons, List.take_zero]
                        refine StepsOK.cons ?_ (StepsOK.cons ?_ (StepsOK.cons ?_ (StepsOK.cons ?_ (StepsOK.cons ?_ (StepsOK.cons ?_ (StepsOK.cons ?_ (StepsOK.cons ?_ (StepsOK.cons ?_ (StepsOK.cons ?_ (StepsOK.cons ?_ (StepsOK.cons ?_ (StepsOK.cons ?_ StepsOK.nil))))))))))))
                        · intro a W L N hR hold hφ hcl hkp hd K hK
                          have e14 := hold 14 (by kernel_rfl)
                          clear hold hφ hcl hkp hd
                          rw [if_pos (by rfl)]
                          go_simp
                          exact hK _ _ (Only.refl _ _) rfl
                        · intro a W L N hR hold hφ hcl hkp hd K hK
                          have e16 := hold 16 (by kernel_rfl)
                          clear hold hφ hcl hkp hd
                          rw [if_pos (by rfl)]
                          go_simp
                          exact hK _ _ (Only.refl _ _) rfl
                        · intro a W L N hR hold hφ hcl hkp hd K hK
                          have e132 := got hφ (hd 0 (by kernel_rfl)) rfl rfl rfl
                          have e133 := got hφ (hd 1 (by kernel_rfl)) rfl rfl rfl
                          clear hold hφ hcl hkp hd
                          rw [if_pos (by rfl)]
                          go_simp
                          exact hK _ _ (Only.refl _ _) rfl
                        · intro a W L N hR hold hφ hcl hkp hd K hK
                          have e134 := got hφ (hd 2 (by kernel_rfl)) rfl rfl rfl
                          have hW9 := HOj.out.plus (Only.plus hdr hR)
                          have hcl0 := (Hcl.out W hW9).1
                          have hcl1 := (Hcl.out W hW9).2 j t Ht.out
                          have hcl2 := Hcq.out W hW9
                          have hsz := hW9.size
                          have hb1 : gP < W.heap.size := by omega
                          have hb2 : g1 < W.heap.size := by omega
                          have hb3 : gQ < W.heap.size := by omega
                          clear hold hφ hcl hkp hd
                          rw [if_pos (by rfl)]
                          go_simp
                          exact hK _ _ (Only.refl _ _) rfl
                        · intro a W L N hR hold hφ hcl hkp hd K hK
                          have e13 := hold 13 (by kernel_rfl)
                          clear hold hφ hcl hkp hd
                          rw [if_pos (by rfl)]
                          go_simp
                          exact hK _ _ (Only.refl _ _) rfl
                        · intro a W L N hR hold hφ hcl hkp hd K hK
                          have e15 := hold 15 (by kernel_rfl)
                          clear hold hφ hcl hkp hd
                          rw [if_pos (by rfl)]
                          go_simp
                          exact hK _ _ (Only.refl _ _) rfl
                        · intro a W L N hR hold hφ hcl hkp hd K hK
                          have e136 := got hφ (hd 4 (by kernel_rfl)) rfl rfl rfl
                          have e137 := got hφ (hd 5 (by kernel_rfl)) rfl rfl rfl
                          clear hold hφ hcl hkp hd
                          rw [if_pos (by rfl)]
                          go_simp
                          exact hK _ _ (Only.refl _ _) rfl
                        · intro a W L N hR hold hφ hcl hkp hd K hK
                          have e138 := got hφ (hd 6 (by kernel_rfl)) rfl rfl rfl
                          have hW9 := HOj.out.plus (Only.plus hdr hR)
                          have hcl0 := (Hcl.out W hW9).1
                          have hcl1 := (Hcl.out W hW9).2 j t Ht.out
                          have hcl2 := Hcq.out W hW9
                          have hsz := hW9.size
                          have hb1 : gP < W.heap.size := by omega
                          have hb2 : g1 < W.heap.size := by omega
                          have hb3 : gQ < W.heap.size := by omega
                          clear hold hφ hcl hkp hd
                          rw [if_pos (by rfl)]
                          go_simp
                          exact hK _ _ (Only.refl _ _) rfl
                        · intro a W L N hR hold hφ hcl hkp hd K hK
                          have e17 := hold 17 (by kernel_rfl)
                          clear hold hφ hcl hkp hd
                          rw [if_pos (by rfl)]
                          go_simp
                          exact hK _ _ (Only.refl _ _) rfl
                        · intro a W L N hR hold hφ hcl hkp hd K hK
                          have e139 := got hφ (hd 7 (by kernel_rfl)) rfl rfl rfl
                          have e140 := got hφ (hd 8 (by kernel_rfl)) rfl rfl rfl
                          clear hold hφ hcl hkp hd
                          rw [if_pos (by rfl)]
                          go_simp
                          exact hK _ _ (Only.refl _ _) rfl
                        · intro a W L N hR hold hφ hcl hkp hd K hK
                          have e141 := got hφ (hd 9 (by kernel_rfl)) rfl rfl rfl
                          have hW9 := HOj.out.plus (Only.plus hdr hR)
                          have hcl0 := (Hcl.out W hW9).1
                          have hcl1 := (Hcl.out W hW9).2 j t Ht.out
                          have hcl2 := Hcq.out W hW9
                          have hsz := hW9.size
                          have hb1 : gP < W.heap.size := by omega
                          have hb2 : g1 < W.heap.size := by omega
                          have hb3 : gQ < W.heap.size := by omega
                          clear hold hφ hcl hkp hd
                          rw [if_pos (by rfl)]
                          go_simp
                          exact hK _ _ (Only.refl _ _) rfl
                        · intro a W L N hR hold hφ hcl hkp hd K hK
                          have e135 := got hφ (hd 3 (by kernel_rfl)) rfl rfl rfl
                          have e142 := got hφ (hd 10 (by kernel_rfl)) rfl rfl rfl
                          have hW9 := HOj.out.plus (Only.plus hdr hR)
                          clear hold hφ hcl hkp hd
                          rw [if_pos (by rfl)]
                          go_simp
                          refine (HIn.out W hW9 t).mono ?_
                          rintro e w' ⟨rfl, rfl⟩
                          rw [decide_eq_true Htq.out]
                          exact hK _ _ (Only.refl _ _) rfl
                        · intro a W L N hR hold hφ hcl hkp hd K hK
                          have e143 := got hφ (hd 11 (by kernel_rfl)) rfl rfl rfl
                          clear hold hφ hcl hkp hd
                          rw [if_pos (by rfl)]
                          go_simp
                          exact hK _ _ (Only.refl _ _) rfl
                      · intro us W hO' hus
                        have p144 : us 12 = .bool false := hus 12 _ 144 (by omega) rfl rfl
                        clear hus
                        simp only [List.take_succ_cons, List.take_zero, List.drop_succ_cons, List.drop_zero, fillAct, Act.put, List.setIfInBounds_toArray, List.set_cons_zero, List.set_cons_succ, Nat.reduceAdd, p144]
                        clear p144
                        have HOX := Lib.hid (Only.plus hdr hO')
                        clear hO'
                        go_wp2_with fail
                        go_roundw
                        case rel => exact ⟨j + 1, by go_num, by omega, HOj.out.plus HOX.out⟩
                        case measure => simp [intOf]; omega
                    · obtain rfl : j = p.length := by omega
                      have hjj : ¬ (p.length : Int) < (p.length : Int) := by omega
                      go_wp2_with fail
                      go_roundw
                      case rel => exact ⟨i + 1, by go_num, by omega, HOj.out⟩
                      case measure => simp [intOf]; omega
          · obtain rfl : i = P.length := by omega
            have hii : ¬ (P.length : Int) < (P.length : Int) := by omega
            go_wp2
            go_ret
            exact ⟨rfl, (HOw7.out.plus HO9.out).plus HOi.out⟩

end Go.Proofs.Ytgkddbpfjbgelaa
