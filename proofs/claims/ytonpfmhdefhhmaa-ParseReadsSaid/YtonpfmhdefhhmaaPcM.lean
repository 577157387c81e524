/-
  For ParseReads: how much a text's program holds; a text as bytes.
-/
import Derived.Test.YtonpfmhdefhhmaaPcK
import Derived.Lib.ConvBytes
namespace Go.Proofs.Ytonpfmhdefhhmaa
set_option maxRecDepth 100000
set_option linter.unusedVariables false
open Go.RowKit Go.Sort

theorem ownP_open {w : World} {base : Nat} {v : Value} {l : List Nat} (h : OwnP w base v l) : ∃ a c, v = .slice a l.length c ∧ (0 < l.length → ∃ g, a = some ⟨g, 0, none⟩ ∧ g < w.heap.size ∧ w.rangeAt g 0 (natsV l)) := by
  have h0 := h
  rcases h.2 with ⟨rfl, h1⟩ | ⟨g, cap, cur, rfl, hb, hg, hc, _⟩
  · exact ⟨none, 0, by rw [h1], fun hp => by omega⟩
  · refine ⟨_, cap, rfl, fun _ => ⟨g, rfl, IsBlk.lt hg, fun j x hx => ?_⟩⟩
    have := World.ownsRow.cells h0 (g := g) rfl j x hx
    rw [Addr.add_mid] at this
    exact this

set_option maxHeartbeats 8000000 in
theorem lplaces_any (w : World) (va vb vc vd ve vf : Value) (P : ProgM) (hP : ProgAt w va vb vc P) (hQ : ProgAt w vd ve vf P) (hn : P.vars.length + P.locks.length + (placesF P.funcs).length ≤ 1000000) :
    Calls Try.prog 20 #[.agg #[va, vb, vc], .agg #[vd, ve, vf]] w fun r w' => r = .returned (.bool true) ∧ Only [] w w' := by
  have HP := Lib.hid hP
  have HQ := Lib.hid hQ
  obtain ⟨⟨av, cv, rfl, -⟩, ⟨al, cl, rfl, -⟩, ⟨af, cf, rfl, -⟩⟩ := hP
  obtain ⟨⟨bv, dv, rfl, -⟩, ⟨bl, dl, rfl, -⟩, ⟨bf, df, rfl, -⟩⟩ := hQ
  have hlen : (placesP P).length ≤ 1000000 := by simp only [placesP, List.length_append, List.length_map]; omega
  have hOa := ((Only.refl [] w).alloc (.cells #[.slice av P.vars.length cv, .slice al P.locks.length cl, .slice af P.funcs.length cf] 30)).alloc (.cells #[.slice bv P.vars.length dv, .slice bl P.locks.length dl, .slice bf P.funcs.length df] 30)
  have hp := (IsBlk.made w (.cells #[.slice av P.vars.length cv, .slice al P.locks.length cl, .slice af P.funcs.length cf] 30)).alloc (.cells #[.slice bv P.vars.length dv, .slice bl P.locks.length dl, .slice bf P.funcs.length df] 30)
  have hq := IsBlk.made (w.alloc (.cells #[.slice av P.vars.length cv, .slice al P.locks.length cl, .slice af P.funcs.length cf] 30)) (.cells #[.slice bv P.vars.length dv, .slice bl P.locks.length dl, .slice bf P.funcs.length df] 30)
  rw [show (w.alloc (.cells #[.slice av P.vars.length cv, .slice al P.locks.length cl, .slice af P.funcs.length cf] 30)).heap.size = w.heap.size + 1 from by simp] at hq
  go_enter Try.func20, Try.ntmps20
  go_upto_region 1 with fail
  generalize hW : (w.alloc (.cells #[.slice av P.vars.length cv, .slice al P.locks.length cl, .slice af P.funcs.length cf] 30)).alloc (.cells #[.slice bv P.vars.length dv, .slice bl P.locks.length dl, .slice bf P.funcs.length df] 30) = w1 at *
  clear hW
  have HOa := Lib.hid hOa
  have Hp := Lib.hid hp
  have Hq := Lib.hid hq
  have hcl : ∀ W, Only [] w1 W → W.cell? ⟨w.heap.size, 0, none⟩ = some (.slice av P.vars.length cv) ∧ W.cell? ⟨w.heap.size, 1, none⟩ = some (.slice al P.locks.length cl) ∧ W.cell? ⟨w.heap.size, 2, none⟩ = some (.slice af P.funcs.length cf) ∧ w.heap.size < W.heap.size ∧
      W.cell? ⟨w.heap.size + 1, 0, none⟩ = some (.slice bv P.vars.length dv) ∧ W.cell? ⟨w.heap.size + 1, 1, none⟩ = some (.slice bl P.locks.length dl) ∧ W.cell? ⟨w.heap.size + 1, 2, none⟩ = some (.slice bf P.funcs.length df) ∧ w.heap.size + 1 < W.heap.size := fun W hW =>
    ⟨(Hp.out.only hW (by simp)).cell 0, (Hp.out.only hW (by simp)).cell 1, (Hp.out.only hW (by simp)).cell 2, (Hp.out.only hW (by simp)).lt, (Hq.out.only hW (by simp)).cell 0, (Hq.out.only hW (by simp)).cell 1, (Hq.out.only hW (by simp)).cell 2, (Hq.out.only hW (by simp)).lt⟩
  have Hcl := Lib.hid hcl
  have HA := Lib.hid (fun W (hW : Only [] w1 W) => dplacesP_any W _ _ _ P (HP.out.more (HOa.out.plus hW)) hn)
  have HB := Lib.hid (fun W (hW : Only [] w1 W) => dplacesP_any W _ _ _ P (HQ.out.more (HOa.out.plus hW)) hn)
  have hdr : Only [] w1 w1.drew := (Only.refl [] w1).drew
  clear hcl hp hq hOa hn
  refine wp_region_stabL (P := Try.prog) 4 (by kernel_rfl) (by kernel_rfl) (Only []) (Only.refl _ _) (fun _ _ _ h k => h.then k [] (by simp) (by simp))
    [SP.is (.agg #[.slice av P.vars.length cv, .slice al P.locks.length cl, .slice af P.funcs.length cf]),
     ⟨fun v W => ∃ base, OwnP W base v (placesP P), fun _ _ _ ⟨base, h⟩ hO => ⟨base, owns_keep h hO (by simp)⟩⟩,
     SP.is (.agg #[.slice bv P.vars.length dv, .slice bl P.locks.length dl, .slice bf P.funcs.length df]),
     ⟨fun v W => ∃ base, OwnP W base v (placesP P), fun _ _ _ ⟨base, h⟩ hO => ⟨base, owns_keep h hO (by simp)⟩⟩] ?_ ?_
  · simp only [List.take_succ_cons, List.take_zero]
    refine StepsOK.cons ?_ (StepsOK.cons ?_ (StepsOK.cons ?_ (StepsOK.cons ?_ StepsOK.nil)))
    · intro a W L N hR hold hφ hcl hkp hd K hK
      have e2 := hold 2 (by kernel_rfl)
      obtain ⟨l0, l1, l2, l3, m0, m1, m2, m3⟩ := Hcl.out W (Only.plus hdr hR)
      clear hold hφ hcl hkp hd
      rw [if_pos (by rfl)]
      go_simp
      exact hK _ _ (Only.refl _ _) rfl
    · intro a W L N hR hold hφ hcl hkp hd K hK
      have e8 := got hφ (hd 0 (by kernel_rfl)) rfl rfl rfl
      have hW := Only.plus hdr hR
      clear hold hφ hcl hkp hd
      rw [if_pos (by rfl)]
      go_simp
      refine (HA.out W hW).mono ?_
      rintro e w' ⟨v, base, rfl, -, h, hO'⟩
      exact hK _ _ hO' ⟨base, h⟩
    · intro a W L N hR hold hφ hcl hkp hd K hK
      have e3 := hold 3 (by kernel_rfl)
      obtain ⟨l0, l1, l2, l3, m0, m1, m2, m3⟩ := Hcl.out W (Only.plus hdr hR)
      clear hold hφ hcl hkp hd
      rw [if_pos (by rfl)]
      go_simp
      exact hK _ _ (Only.refl _ _) rfl
    · intro a W L N hR hold hφ hcl hkp hd K hK
      have e10 := got hφ (hd 2 (by kernel_rfl)) rfl rfl rfl
      have hW := Only.plus hdr hR
      clear hold hφ hcl hkp hd
      rw [if_pos (by rfl)]
      go_simp
      refine (HB.out W hW).mono ?_
      rintro e w' ⟨v, base, rfl, -, h, hO'⟩
      exact hK _ _ hO' ⟨base, h⟩
  · intro us W hO' hus
    obtain ⟨b1, h1⟩ := hus 1 _ 9 (by omega) rfl rfl
    obtain ⟨b2, h2⟩ := hus 3 _ 11 (by omega) rfl rfl
    obtain ⟨x1, y1, e1, r1⟩ := ownP_open h1
    obtain ⟨x2, y2, e2, r2⟩ := ownP_open h2
    clear hus h1 h2
    simp only [List.take_succ_cons, List.take_zero, List.drop_succ_cons, List.drop_zero, fillAct, Act.put, List.setIfInBounds_toArray, List.set_cons_zero, List.set_cons_succ, Nat.reduceAdd, e1, e2]
    clear e1 e2
    have HO4 := Lib.hid (HOa.out.plus (Only.plus hdr hO'))
    have R1 := Lib.hid r1
    have R2 := Lib.hid r2
    clear r1 r2 hO' hdr HA HB Hcl
    generalize placesP P = l at *
    go_wp2_with fail
    go_loopw [7] (fun iv wr => ∃ j : Nat, iv = .int .i64 j ∧ j ≤ l.length ∧ Only [] W wr) (fun iv _ => l.length - (intOf iv).toNat)
    case atStart => exact ⟨0, rfl, Nat.zero_le _, Only.refl _ _⟩
    case round =>
      obtain ⟨j, rfl, hj, hO⟩ := hrel
      have HO := Lib.hid hO
      clear hO
      by_cases hlt : j < l.length
      · have hlti : (j : Int) < (l.length : Int) := by omega
        have hj0 : (0 : Int) ≤ (j : Int) := by omega
        obtain ⟨g1, rfl, k1, s1⟩ := R1.out (by omega)
        obtain ⟨g2, rfl, k2, s2⟩ := R2.out (by omega)
        have hget : (natsV l)[j]? = some (.int .i64 (l[j] : Int)) := by simp [natsV, hlt]
        have q1 := s1 _ _ hget
        rw [Nat.zero_add] at q1
        have t1 := (HO.out.cell (p := ⟨g1, j, none⟩) k1 (by simp)).trans q1
        have q2 := s2 _ _ hget
        rw [Nat.zero_add] at q2
        have t2 := (HO.out.cell (p := ⟨g2, j, none⟩) k2 (by simp)).trans q2
        have u1 := Nat.lt_of_lt_of_le k1 HO.out.size
        have u2 := Nat.lt_of_lt_of_le k2 HO.out.size
        generalize l[j] = x at *
        clear s1 s2 hget k1 k2 q1 q2
        go_upto_region 7 with fail
        go_region
        have HO2 := Lib.hid HO.out.drew
        go_wp2
        go_roundw
        case rel => exact ⟨j + 1, by go_num, hlt, HO2.out⟩
        case measure => simp [intOf]; omega
      · have hlti : ¬ (j : Int) < (l.length : Int) := by omega
        go_wp2
        go_ret
        exact ⟨rfl, HO4.out.plus HO.out⟩

end Go.Proofs.Ytonpfmhdefhhmaa
namespace Go.Proofs.Ytonpfmhdefhhmaa
set_option maxRecDepth 100000
set_option linter.unusedVariables false
open Go.RowKit Go.Sort

theorem parse_cnt : ∀ (f : Nat),
    (∀ d e r x r1, blockF f d e r = .ok (x, r1) → x.cnt + r1.length ≤ r.length) ∧
    (∀ d e r x r1, stmtF f d e r = .ok (x, r1) → x.a.cnt + x.b.cnt + 1 + r1.length ≤ r.length) ∧
    (∀ d e r x r1, stmtsF f d e r = .ok (x, r1) → x.cnt + r1.length ≤ r.length)
  | 0 => ⟨fun d e r x r1 h => by cases r <;> simp [blockF] at h, fun d e r x r1 h => by cases r <;> simp [stmtF] at h, fun d e r x r1 h => by simp [stmtsF] at h⟩
  | f + 1 => by
    obtain ⟨ihb, iht, ihs⟩ := parse_cnt f
    refine ⟨fun d e r x r1 h => ?_, fun d e r x r1 h => ?_, fun d e r x r1 h => ?_⟩
    · cases r with
      | nil => simp [blockF] at h
      | cons t r =>
        rw [blockF] at h
        split at h
        · cases h
        · split at h
          · cases h
          · have := ihs _ _ _ _ _ h; simp only [List.length_cons]; omega
    · cases r with
      | nil => simp [stmtF] at h
      | cons t r =>
        rw [stmtF] at h
        split at h
        · cases h
        · split at h
          · split at h
            · cases h
            · rename_i a r2 hb
              have h1 := ihb _ _ _ _ _ hb
              split at h
              · split at h
                · cases h
                · rename_i b r3 hc
                  have h2 := ihb _ _ _ _ _ hc
                  injection h with h; injection h with h3 h4; subst h3 h4
                  simp only [List.length_tail, List.length_cons] at *
                  omega
              · injection h with h; injection h with h3 h4; subst h3 h4
                simp only [List.length_cons, Blk.cnt]; omega
          · split at h
            · split at h
              · cases h
              · rename_i a r2 hb
                have h1 := ihb _ _ _ _ _ hb
                injection h with h; injection h with h3 h4; subst h3 h4
                simp only [List.length_cons, Blk.cnt]; omega
            · split at h
              · cases h
              · rename_i n r2 hb
                have h1 := nameF_len hb
                injection h with h; injection h with h3 h4; subst h3 h4
                simp only [List.length_cons, Blk.cnt]; omega
    · rw [stmtsF] at h
      split at h
      · rename_i hk
        injection h with h; injection h with h3 h4; subst h3 h4
        cases r with
        | nil => simp at hk
        | cons t r => simp [Blk.cnt]
      · split at h
        · cases h
        · rename_i s r2 ht
          have h1 := iht _ _ _ _ _ ht
          split at h
          · cases h
          · rename_i l r3 hs
            have h2 := ihs _ _ _ _ _ hs
            injection h with h; injection h with h3 h4; subst h3 h4
            simp only [Blk.cnt]; omega

def sizeP (P : ProgM) : Nat := P.vars.length + P.locks.length + (placesF P.funcs).length
theorem prog_sizes : ∀ (f e : Nat) (r : List Tok) (P Q : ProgM), progF f e r P = .ok Q → sizeP Q ≤ sizeP P + r.length
  | 0, e, r, P, Q, h => by simp only [progF] at h; injection h with h; subst h; omega
  | f + 1, e, [], P, Q, h => by simp only [progF] at h; injection h with h; subst h; omega
  | f + 1, e, t :: r, P, Q, h => by
    rw [progF] at h
    split at h
    · split at h
      · cases h
      · rename_i n r1 hn
        have h1 := prog_sizes f e r1 _ Q h
        have h2 := nameF_len hn
        simp only [sizeP, List.length_append, List.length_cons, List.length_nil] at *
        omega
    · split at h
      · split at h
        · cases h
        · rename_i n r1 hn
          have h1 := prog_sizes f e r1 _ Q h
          have h2 := nameF_len hn
          simp only [sizeP, List.length_append, List.length_cons, List.length_nil] at *
          omega
      · split at h
        · split at h
          · cases h
          · rename_i n r1 hn
            split at h
            · cases h
            · rename_i b r2 hb
              have h1 := prog_sizes f e r2 _ Q h
              have h2 := nameF_len hn
              have h3 := (parse_cnt _).1 _ _ _ _ _ hb
              have h4 : (placesF (P.funcs ++ [⟨n, t.at_, b⟩])).length = (placesF P.funcs).length + (1 + b.cnt) := by
                simp only [placesF, List.flatMap_append, List.length_append, List.flatMap_cons, List.flatMap_nil, List.length_cons, List.length_nil, placesB_len]
                omega
              simp only [sizeP, List.length_cons] at *
              rw [h4] at h1
              omega
        · cases h
theorem parseM_size (s : List UInt8) : sizeP (parseM s).1 ≤ s.length := by
  unfold parseM
  split
  · exact Nat.zero_le _
  · split
    · rename_i p h
      have h1 := prog_sizes _ _ _ _ _ h
      have h2 := tokM_len s
      have h3 : sizeP ⟨[], [], []⟩ = 0 := rfl
      show sizeP p ≤ _
      omega
    · exact Nat.zero_le _
theorem funcs_cnt : ∀ (l : List FuncM), ∀ f ∈ l, f.body.cnt ≤ (placesF l).length
  | [], f, h => by cases h
  | g :: l, f, h => by
    simp only [placesF, List.flatMap_cons, List.length_append, List.length_cons, placesB_len]
    rcases List.mem_cons.1 h with rfl | h
    · omega
    · have := funcs_cnt l f h
      simp only [placesF] at this
      omega

theorem bytes_conv (w : World) (s : List UInt8) : ∃ c w', (convert 9 32 (.string ⟨s.toArray⟩)).run Try.prog w = .ok (.slice (some ⟨w.heap.size, 0, none⟩) s.length c) w' ∧ Only [] w w' ∧ w.heap.size < w'.heap.size ∧ w'.rangeAt w.heap.size 0 (bv s) ∧
    ∀ i, i < s.length → w'.frozen? ⟨w.heap.size, i, none⟩ = false := by
  have h := Lib.run_convert_string_bytes (P := Try.prog) w 9 32 5 ⟨s.toArray⟩ (u := .string) Try.underlying9 Try.underlying32 Try.underlying5
  have hs : (⟨s.toArray⟩ : ByteArray).size = s.length := by simp [ByteArray.size]
  rw [hs] at h
  refine ⟨_, _, h, ⟨rfl, rfl, rfl, by rw [Lib.bytesWorld_size]; omega, fun k hk _ => Lib.bytesWorld_at_old w _ _ k hk⟩, by rw [Lib.bytesWorld_size]; omega, fun j v hv => ?_, fun i hi => ?_⟩
  · have hj : j < s.length := by have := (List.getElem?_eq_some_iff.1 hv).1; simpa [bv] using this
    rw [Nat.zero_add, Lib.bytesWorld_cell w _ _ j (by rw [hs]; exact hj)]
    simp only [bv, List.getElem?_map, List.getElem?_eq_getElem hj, Option.map_some, Option.some.injEq] at hv
    rw [← hv]
    simp [List.getD, List.getElem?_eq_getElem hj]
  · have h1 := Lib.bytesWorld_at_new w 5 ⟨s.toArray⟩
    have h2 : s.length ≤ (Lib.bytesCells w 5 ⟨s.toArray⟩).size := by
      simp [Lib.bytesCells]
    simp only [World.frozen?, h1]
    simp
    omega

end Go.Proofs.Ytonpfmhdefhhmaa
