/-
  The walk of the law SectReads.
-/
import Derived.Test.YtiegkdkbkkbjpaaSectRA
import Derived.Test.YtiegkdkbkkbjpaaSectR
import Derived.Test.YtiegkdkbkkbjpaaSectW
import Derived.ProofKit
import Derived.OpenShut
namespace Go.Proofs.Ytiegkdkbkkbjpaa
open Go.RowKit Go.ChangeShapes Go.WideShapes Go.ChangeAt

/-- A row of numbers among the arguments. -/
def IntSrc (w : World) (a : Option Addr) (len : Nat) (zs : List Int) : Prop :=
  zs.length = len ∧ (0 < len → ∃ b o, a = some ⟨b, o, none⟩ ∧ b < w.heap.size ∧ ∀ j z, zs[j]? = some z → w.cell? ⟨b, o + j, none⟩ = some (.int .i64 z))
theorem ints_of_read {H : Type} {enc : TypeId × Value → H} {W : World} {a : Option Addr} {len cap : Nat} {d : DataW H} {p : List MemPlace}
    (h : DataW.Trod enc Try.prog W 0 (fun _ => true) true 40 (.slice a len cap) d p) : ∃ zs, IntSrc W a len zs := by
  obtain ⟨fuel, hf⟩ := h
  rcases open_ints Try.underlying40 Try.underlying3 (by kernel_rfl) hf with ⟨hcs, _⟩ | ⟨x, l, c, zs, hcs, _, hl, hm, hz, _, hcell, hwz⟩
  · simp [Value.cells] at hcs
    obtain ⟨rfl, rfl, rfl⟩ := hcs
    exact ⟨[], rfl, fun h => by omega⟩
  · simp [Value.cells] at hcs
    obtain ⟨rfl, rfl, rfl⟩ := hcs
    have hz' : zs.length = cap := by simpa using hz
    refine ⟨zs.take len, by simp [hz']; omega, fun hp => ?_⟩
    have h0 := hcell 0 (by omega)
    obtain ⟨b, o, sp0⟩ := x
    have hspot : sp0 = none := by simpa [Addr.add] using World.cell?_spot h0
    subst hspot
    have hb : b < W.heap.size := by have := World.block_lt_of_cell? W _ h0; simpa [Addr.add] using this
    refine ⟨b, o, rfl, hb, fun j v hv => ?_⟩
    have hj : j < len := by have := (List.getElem?_eq_some_iff.1 hv).1; simp at this; omega
    have hjz : j < zs.length := by omega
    have hc := hcell j hjz
    rw [Addr.add_mid] at hc
    rw [hc]
    rw [List.getElem?_take_of_lt hj, List.getElem?_eq_getElem hjz] at hv
    injection hv with hv
    simp [List.getD, List.getElem?_eq_getElem hjz, hv]

theorem cap_of_read {H : Type} {enc : TypeId × Value → H} {W : World} {a : Option Addr} {len cap : Nat} {d : DataW H} {p : List MemPlace}
    (h : DataW.Trod enc Try.prog W 0 (fun _ => true) true 22 (.slice a len cap) d p) : len ≤ cap := by
  obtain ⟨fuel, hf⟩ := h
  rcases open_ints Try.underlying22 Try.underlying5 (by kernel_rfl) hf with ⟨hcs, _⟩ | ⟨x, l, c, zs, hcs, _, hl, hm, hz, _, hcell, hwz⟩
  · simp [Value.cells] at hcs
    obtain ⟨rfl, rfl, rfl⟩ := hcs
    exact Nat.le_refl _
  · simp [Value.cells] at hcs
    obtain ⟨rfl, rfl, rfl⟩ := hcs
    omega

theorem parse_src (w : World) (a : Option Addr) (n c : Nat) (l : List UInt8) (h : Src w a n l) (hc : n ≤ c) : Calls Try.prog 17 #[.slice a n c] w (ParseTo w (parseB l)) := by
  by_cases hn : n = 64
  · subst hn
    obtain ⟨b, o, rfl, _⟩ := h.2 (by omega)
    exact parse_any w b o c hc l h
  · have hno : parseB l = none := by
      unfold parseB; rw [if_neg]; rintro ⟨h1, _⟩; exact hn (h.1.symm.trans h1)
    rw [hno]
    exact parse_len w a n c hn
theorem refparse_src (w : World) (a : Option Addr) (n c : Nat) (l : List UInt8) (h : Src w a n l) (hc : n ≤ c) : Calls Try.prog 21 #[.slice a n c] w (RefParseTo w (parseB l)) := by
  by_cases hn : n = 64
  · subst hn
    obtain ⟨b, o, rfl, _⟩ := h.2 (by omega)
    exact refparse_any w b o c hc l h
  · have hno : parseB l = none := by
      unfold parseB; rw [if_neg]; rintro ⟨h1, _⟩; exact hn (h.1.symm.trans h1)
    rw [hno]
    exact refparse_len w a n c hn

theorem wpList_append_fresh {w : World} {ops : Array Oper} {rest : List Oper} {o : Oper} {a : Act} {Q : Exit → Act → World → Prop} (hgd : o.guard = none) (s x : Operand)
    (ho : o.op = .call { callee := .builtin .append, args := #[s, x], argTypes := #[22, 22] })
    (g : Nat) (hs : a.eval s = .slice (some ⟨g, 0, none⟩) 0 0)
    (xa : Option Addr) (m c : Nat) (l : List UInt8) (hx : a.eval x = .slice xa m c) (hsrc : Src w xa m l) (hsm : m ≤ 100000000)
    (h : ∀ v' w', (∃ a' c', v' = .slice a' m c' ∧ Src w' a' m l ∧ m ≤ c') → (0 < m → OwnB w' w.heap.size v' l) → Only [] w w' → wpList Try.prog ops Q rest (a.put o.dst v') w') : wpList Try.prog ops Q (o :: rest) a w :=
  wpList_plain hgd fun _ hK => wp_append_new s x ho g hs xa m c l hx hsrc hsm fun v' w' h1 h2 h3 => hK _ _ (h v' w' h1 h2 h3)

theorem wrap8 (x : Int) : ∃ m : Nat, m < 256 ∧ IntKind.u8.wrap x = (m : Int) := by
  have h0 : IntKind.u8.wrap x = x % 256 := by simp [IntKind.wrap, IntKind.signed, IntKind.bits]
  obtain ⟨m, hm⟩ := Int.eq_ofNat_of_zero_le (Int.emod_nonneg x (show (256 : Int) ≠ 0 by omega))
  have := Int.emod_lt_of_pos x (show (0 : Int) < 256 by omega)
  exact ⟨m, by omega, by rw [h0, hm]⟩
theorem Only.toBelow {w w' : World} (h : Only [] w w') : Below w.heap.size w w' := h.below (by simp)

/-- append of bytes to a row of one's own: its block alone may turn. -/
theorem wp_append_mine {w : World} {o : Oper} {a : Act} {K : Act → World → Prop} {Q : Exit → Act → World → Prop} (s x : Operand)
    (ho : o.op = .call { callee := .builtin .append, args := #[s, x], argTypes := #[22, 22] })
    (base g n cap : Nat) (L : List UInt8) (hs : a.eval s = .slice (some ⟨g, 0, none⟩) n cap) (hown : OwnB w base (.slice (some ⟨g, 0, none⟩) n cap) L)
    (xa : Option Addr) (m c : Nat) (l : List UInt8) (hx : a.eval x = .slice xa m c) (hsrc : Src w xa m l) (hsm : L.length + m ≤ 100000000) (hbase : base ≤ w.heap.size)
    (h : ∀ v' w', OwnB w' base v' (L ++ l) → Only [g] w w' → K (a.put o.dst v') w') : o.wp Try.prog a w K Q := by
  obtain ⟨i0, hi, hz0, hz1, hz2⟩ := info_parts info5
  have hlen := hsrc.1
  rcases xa with _ | ad
  · have hm : m = 0 := by
      rcases Nat.eq_zero_or_pos m with h0 | h0
      · exact h0
      · obtain ⟨b, o, e, _⟩ := hsrc.2 h0; cases e
    subst hm
    obtain rfl : l = [] := List.eq_nil_of_length_eq_zero hlen
    have hrun := run_append_none w base _ L hown o.type c
    unfold Oper.wp execOp
    simp only [ho, resolve, invoke, builtin, Sem.run_bind, Sem.run_pure, Result.andThen_ok, List.map_toArray, List.map_cons, List.map_nil, hs, hx, hrun]
    exact h _ w (by simpa using hown) (Only.refl _ _)
  · refine wp_append_own w s x _ ho base _ i0 (.int .u8 0) 1 1 Try.underlying22 hi hz0 hz1 hz2 rfl (by decide) _ L.length (bv L) hs hown ad m c (bv l) hx (by rw [length_bv, hlen, Nat.mul_one])
      (fun j u hu => ?_) (bv_one l) (by unfold maxLen; omega) (by omega) hbase ?_
    · have hj : j < m := by have := (List.getElem?_eq_some_iff.1 hu).1; rw [length_bv] at this; omega
      obtain ⟨b, o', e, hb, hr⟩ := hsrc.2 (by omega)
      injection e with e; subst e
      rw [Addr.add_mid]; exact hr j u hu
    · intro v' w' h2 h3 _
      refine h v' w' ?_ ⟨h3.os, h3.tape, h3.output, h3.size, fun k hk hn => h3.block k hk (by simp [Value.ownBlock] at hn ⊢; exact hn)⟩
      unfold OwnB
      rw [List.length_append, hlen, bv_append]
      exact h2

theorem dep_only {ops : Array Oper} {n i k : Nat} (h : ((List.range n).all fun j => !dep ops j i || j == k) = true) (j : Nat) (hj : j < n) (hd : dep ops j i = true) : j = k := by
  have := List.all_eq_true.1 h j (List.mem_range.2 hj)
  simpa [hd] using this

/-- What the append to the row of one's own may do: a block that begins with the Part's bytes may turn. -/
def Turns (B : Nat) (L : List UInt8) (w w' : World) : Prop := ∃ g cur, IsBlk w g (.cells cur 5) ∧ (∀ i, i < 64 → cur[i]? = (bv L)[i]?) ∧ B ≤ g ∧ Only [g] w w'
theorem turns_not {B : Nat} {L : List UInt8} {w w' : World} {g : Nat} (h : Turns B L w w') (hL : L.length = 64) (hne : L ≠ nul 64) (hg : IsBlk w g (.cells (bv (nul 64)).toArray 5)) : IsBlk w' g (.cells (bv (nul 64)).toArray 5) := by
  obtain ⟨x, cur, hb, hc, hB, hO⟩ := h
  refine hg.only hO ?_
  simp only [List.mem_singleton]
  intro e
  subst e
  have hsame := IsBlk.same hb hg
  injection hsame with h1 _ _
  subst h1
  apply hne
  have hbv : bv L = bv (nul 64) := by
    apply List.ext_getElem?
    intro i
    by_cases hi : i < 64
    · rw [← hc i hi]; simp
    · rw [List.getElem?_eq_none (by rw [length_bv]; omega), List.getElem?_eq_none (by rw [length_bv, length_nul]; omega)]
  apply List.ext_getElem?
  intro i
  have := congrArg (·[i]?) hbv
  simp only [bv, List.getElem?_map] at this
  cases h1 : L[i]? with
  | none => cases h2 : (nul 64)[i]? with
    | none => rfl
    | some y => simp [h1, h2] at this
  | some x => cases h2 : (nul 64)[i]? with
    | none => simp [h1, h2] at this
    | some y =>
      simp [h1, h2] at this
      congr 1
      exact UInt8.toNat_inj.1 (by omega)

/-- Five rows of bytes, in a row. -/
def Five (W : World) (g : Nat) : Prop := ∀ k, k < 5 → ∃ a n c l, W.cell? ⟨g, k, none⟩ = some (.slice a n c) ∧ Src W a n l ∧ n ≤ c ∧ n ≤ 300
theorem Five.more {W W' : World} {g : Nat} (h : Five W g) (hg : g < W.heap.size) (hO : Only [] W W') : Five W' g := fun k hk => by
  obtain ⟨a, n, c, l, h1, h2, h3, h4⟩ := h k hk
  exact ⟨a, n, c, l, only_cell hO hg h1, h2.more hO, h3, h4⟩

set_option maxRecDepth 100000 in
set_option maxHeartbeats 8000000 in
theorem reads_walk (gen rec' n of : Int) (a : Option Addr) (len cap : Nat) (l : List UInt8) (aa : Option Addr) (lena capa : Nat) (zs : List Int) (ab : Option Addr) (lenb capb : Nat) (ys : List UInt8) (cut : Int) (ar : Option Addr) (lenr capr : Nat) (rs : List UInt8) (w : World)
    (h : Src w a len l) (ha : IntSrc w aa lena zs) (hb : Src w ab lenb ys) (hr : Src w ar lenr rs) (hcr : lenr ≤ capr) :
    Calls Try.prog 5 #[.int .i64 gen, .int .i64 rec', .int .i64 n, .int .i64 of, .slice a len cap, .slice aa lena capa, .slice ab lenb capb, .int .i64 cut, .slice ar lenr capr] w fun e w' => e = .returned (.bool true) ∧ Only [] w w' := by
  have hok := makeP_ok gen rec' n of l
  have hd52 := length_pad52 l
  have Hok := Lib.hid hok
  have hl1 := h.1
  subst hl1
  have hl2 := ha.1
  subst hl2
  have hl3 := hb.1
  subst hl3
  have hl4 := hr.1
  subst hl4
  have H := Lib.hid h
  have Ha := Lib.hid ha
  have Hb := Lib.hid hb
  have Hr := Lib.hid hr
  clear h ha hb hr
  by_cases hl : l.length > 200
  · have hli : (200 : Int) < (l.length : Int) := by omega
    go_enter Try.func5, Try.ntmps5
    go_wp2_with fail
    refine (known_any _).mono ?_
    rintro e w1 ⟨rfl, hO⟩
    go_wp2
    go_ret
    exact ⟨rfl, hO⟩
  have hli : ¬ (200 : Int) < (l.length : Int) := by omega
  by_cases hl' : rs.length > 200
  · have hli' : (200 : Int) < (rs.length : Int) := by omega
    go_enter Try.func5, Try.ntmps5
    go_wp2_with fail
    refine (known_any _).mono ?_
    rintro e w1 ⟨rfl, hO⟩
    go_wp2
    go_ret
    exact ⟨rfl, hO⟩
  have hli' : ¬ (200 : Int) < (rs.length : Int) := by omega
  go_enter Try.func5, Try.ntmps5
  go_wp2_with fail
  refine (known_any _).mono ?_
  rintro e w1 ⟨rfl, hO1⟩
  have hs1 := Lib.hid (H.out.more hO1)
  go_wp2_with fail
  refine (make_any _ gen rec' n of a l.length cap l hs1.out).mono ?_
  rintro e w2 ⟨gd, rfl, hb2, hg2, hO2⟩
  have hsd := src_all hb2 (show (makeP gen rec' n of l).d.length = 52 from hd52)
  have hO2' : Only [] w w2 := hO1.then hO2 [] (by simp) (by simp)
  generalize makeP gen rec' n of l = p at *
  have Hsd := Lib.hid hsd
  have HO2 := Lib.hid hO2'
  clear hO1 hO2 hO2' hb2 hsd hs1 hok hd52
  go_wp2_with fail
  refine (refbytes_P _ p _ 52 Hok.out Hsd.out).mono ?_
  rintro e w3 ⟨v3, rfl, hown3, hO3⟩
  have hlen : (bytesB p).length = 64 := length_bytesB (okB_iff.1 Hok.out).2.2.2.2.2
  have Hlen := Lib.hid hlen
  obtain ⟨g3, c3, cur3, hv3, hg3, hb3, hc3, hr3⟩ := hown3.full (by omega)
  rw [hlen] at hv3 hc3
  subst hv3
  have hs3 := rangeSrc hr3 hb3.lt
  rw [hlen] at hs3
  have hO3' : Only [] w w3 := HO2.out.then hO3 [] (by simp) (by simp)
  have HO3 := Lib.hid hO3'
  have Hs3 := Lib.hid hs3
  have hs3a := fun ob => Lib.hid (hs3.more ((Only.refl [] w3).alloc ob))
  have hg3l := hb3.lt
  clear hown3 hb3 hr3 hO3 hO3' HO2 Hsd hlen hs3
  go_upto_block 0 with (at_builtin; refine wpList_append_b rfl _ _ rfl w3.heap.size _ [] rfl (OwnB.empty w3 w3.heap.size (Nat.le_refl _)) (some ⟨g3, 0, none⟩) 64 c3 (bytesB p) rfl (hs3a _).out (by simp) (by simp) ?_; intro v4 w4 h4 hb4 h4n; clear h4n; rw [List.nil_append] at h4; obtain ⟨g4, c4, cur4, hv4, hg4, hb4', hc4, hr4⟩ := h4.full (by rw [Hlen.out]; omega); rw [Hlen.out] at hv4 hc4; subst hv4)
  have hO4 : Only [] w3 w4 := only_below (((Below.refl _ w3).alloc (Nat.le_refl _) _).trans hb4)
  have H4 := Lib.hid h4
  have HO4 := Lib.hid hO4
  clear h4 hb4 hb4' hr4 hO4 hs3a
  go_cut [22] (fun _ wx => ∃ L : List UInt8, L.length = 64 ∧ OwnB wx w3.heap.size (.slice (some ⟨g4, 0, none⟩) 64 c4) L ∧ Only [] w3 wx)
  case first =>
    go_wp2_with fail
    go_loopw [22] (fun i wr => ∃ j : Nat, j ≤ 3 ∧ i = .int .i64 j ∧ ∃ L : List UInt8, L.length = 64 ∧ OwnB wr w3.heap.size (.slice (some ⟨g4, 0, none⟩) 64 c4) L ∧ Only [] w3 wr) (fun i _ => 3 - (intOf i).toNat)
    case atStart => exact ⟨0, Nat.zero_le _, rfl, bytesB p, Hlen.out, H4.out, HO4.out⟩
    case round =>
      obtain ⟨j, hj, rfl, L, hL, hown, hO⟩ := hrel
      by_cases hgo : j < zs.length ∧ j < ys.length ∧ j < 3
      · obtain ⟨hj1, hj2, hj3⟩ := hgo
        have q1 : (j : Int) < (zs.length : Int) := by omega
        have q2 : (j : Int) < (ys.length : Int) := by omega
        have q3 : (j : Int) < 3 := by omega
        have hOw : Only [] w wr := HO3.out.then hO [] (by simp) (by simp)
        obtain ⟨ba, oa, rfl, hba, hza⟩ := Ha.out.2 (by omega)
        obtain ⟨bb, ob, rfl, hbb, hyb⟩ := Hb.out.2 (by omega)
        have hza := hza j zs[j] (List.getElem?_eq_getElem hj1)
        have hyb := Src.cell hyb j hj2
        generalize zs[j] = z at *
        have hxl := (ys[j]).toNat_lt
        generalize (ys[j]).toNat = x at *
        obtain ⟨t, ht⟩ := Int.eq_ofNat_of_zero_le (Int.emod_nonneg z (show (64 : Int) ≠ 0 by omega))
        have ht64 := Int.emod_lt_of_pos z (show (0 : Int) < 64 by omega)
        have htl : t < 64 := by omega
        have hti : (t : Int) < 64 := by omega
        have Ht := Lib.hid ht
        clear ht ht64
        obtain ⟨hcv, hfv⟩ := hown.byte t (by omega)
        have hg4l : g4 < wr.heap.size := (hown.lt g4 rfl).2
        have hvl := (L[t]'(by omega)).toNat_lt
        generalize (L[t]'(by omega)).toNat = v at *
        have HOr := Lib.hid hOw
        have Hown := Lib.hid hown
        have HO := Lib.hid hO
        clear hOw hown hO
        go_upto_region 10 with fail
        refine wp_region_stabL (P := Try.prog) 16 (by kernel_rfl) (by kernel_rfl) (Only []) (Only.refl _ _) (fun _ _ _ h k => h.then k [] (by simp) (by simp))
          [SP.is (.slice (some ⟨g4, 0, none⟩) 64 c4),
           SP.is (.slice (some ⟨ba, oa, none⟩) zs.length capa),
           SP.is (.int .i64 j),
           SP.is (.pointer (some ⟨ba, oa + j, none⟩)),
           SP.is (.int .i64 z),
           SP.is (.slice (some ⟨g4, 0, none⟩) 64 c4),
           SP.is (.int .i64 64),
           SP.is (.int .i64 (t : Nat)),
           SP.is (.pointer (some ⟨g4, t, none⟩)),
           SP.is (.int .u8 v),
           SP.is (.slice (some ⟨bb, ob, none⟩) ys.length capb),
           SP.is (.int .i64 j),
           SP.is (.pointer (some ⟨bb, ob + j, none⟩)),
           SP.is (.int .u8 x),
           SP.is (.int .u8 (IntKind.u8.wrap ((v : Int) + (x : Int)))),
           SP.is (.pointer (some ⟨g4, t, none⟩))] ?_ ?_
        · simp only [List.take_succ_cons, List.take_zero]
          refine StepsOK.cons ?_ (StepsOK.cons ?_ (StepsOK.cons ?_ (StepsOK.cons ?_ (StepsOK.cons ?_ (StepsOK.cons ?_ (StepsOK.cons ?_ (StepsOK.cons ?_ (StepsOK.cons ?_ (StepsOK.cons ?_ (StepsOK.cons ?_ (StepsOK.cons ?_ (StepsOK.cons ?_ (StepsOK.cons ?_ (StepsOK.cons ?_ (StepsOK.cons ?_ StepsOK.nil)))))))))))))))
          · intro a W L N hR hold hφ hcl hkp hd K hK
            have e21 := hold 21 (by kernel_rfl)
            clear hold hφ hcl hkp hd
            rw [if_pos (by rfl)]
            go_simp
            exact hK _ _ (Only.refl _ _) rfl
          · intro a W L N hR hold hφ hcl hkp hd K hK
            have e5 := hold 5 (by kernel_rfl)
            clear hold hφ hcl hkp hd
            rw [if_pos (by rfl)]
            go_simp
            exact hK _ _ (Only.refl _ _) rfl
          · intro a W L N hR hold hφ hcl hkp hd K hK
            have e22 := hold 22 (by kernel_rfl)
            clear hold hφ hcl hkp hd
            rw [if_pos (by rfl)]
            go_simp
            exact hK _ _ (Only.refl _ _) rfl
          · intro a W L N hR hold hφ hcl hkp hd K hK
            have e69 := got hφ (hd 1 (by kernel_rfl)) rfl rfl rfl
            have e70 := got hφ (hd 2 (by kernel_rfl)) rfl rfl rfl
            clear hold hφ hcl hkp hd
            rw [if_pos (by rfl)]
            go_simp
            exact hK _ _ (Only.refl _ _) rfl
          · intro a W L N hR hold hφ hcl hkp hd K hK
            have e71 := got hφ (hd 3 (by kernel_rfl)) rfl rfl rfl
            clear hold hφ hcl hkp hd
            rw [if_pos (by rfl)]
            have hc := only_cell (HOr.out.drew.then hR [] (by simp) (by simp)) hba hza
            go_simp
            exact hK _ _ (Only.refl _ _) rfl
          · intro a W L N hR hold hφ hcl hkp hd K hK
            have e21 := hold 21 (by kernel_rfl)
            clear hold hφ hcl hkp hd
            rw [if_pos (by rfl)]
            go_simp
            exact hK _ _ (Only.refl _ _) rfl
          · intro a W L N hR hold hφ hcl hkp hd K hK
            have e73 := got hφ (hd 5 (by kernel_rfl)) rfl rfl rfl
            clear hold hφ hcl hkp hd
            rw [if_pos (by rfl)]
            go_simp
            exact hK _ _ (Only.refl _ _) rfl
          · intro a W L N hR hold hφ hcl hkp hd K hK
            have e72 := got hφ (hd 4 (by kernel_rfl)) rfl rfl rfl
            have e74 := got hφ (hd 6 (by kernel_rfl)) rfl rfl rfl
            clear hold hφ hcl hkp hd
            rw [if_pos (by rfl)]
            go_simp
            refine (within_any _ z 64 (by omega) (by omega)).mono ?_
            rintro e w' ⟨rfl, rfl⟩
            rw [Ht.out]
            exact hK _ _ (Only.refl _ _) rfl
          · intro a W L N hR hold hφ hcl hkp hd K hK
            have e68 := got hφ (hd 0 (by kernel_rfl)) rfl rfl rfl
            have e75 := got hφ (hd 7 (by kernel_rfl)) rfl rfl rfl
            clear hold hφ hcl hkp hd
            rw [if_pos (by rfl)]
            go_simp
            exact hK _ _ (Only.refl _ _) rfl
          · intro a W L N hR hold hφ hcl hkp hd K hK
            have e76 := got hφ (hd 8 (by kernel_rfl)) rfl rfl rfl
            clear hold hφ hcl hkp hd
            rw [if_pos (by rfl)]
            have hc := only_cell hR hg4l hcv
            go_simp
            exact hK _ _ (Only.refl _ _) rfl
          · intro a W L N hR hold hφ hcl hkp hd K hK
            have e6 := hold 6 (by kernel_rfl)
            clear hold hφ hcl hkp hd
            rw [if_pos (by rfl)]
            go_simp
            exact hK _ _ (Only.refl _ _) rfl
          · intro a W L N hR hold hφ hcl hkp hd K hK
            have e22 := hold 22 (by kernel_rfl)
            clear hold hφ hcl hkp hd
            rw [if_pos (by rfl)]
            go_simp
            exact hK _ _ (Only.refl _ _) rfl
          · intro a W L N hR hold hφ hcl hkp hd K hK
            have e78 := got hφ (hd 10 (by kernel_rfl)) rfl rfl rfl
            have e79 := got hφ (hd 11 (by kernel_rfl)) rfl rfl rfl
            clear hold hφ hcl hkp hd
            rw [if_pos (by rfl)]
            go_simp
            exact hK _ _ (Only.refl _ _) rfl
          · intro a W L N hR hold hφ hcl hkp hd K hK
            have e80 := got hφ (hd 12 (by kernel_rfl)) rfl rfl rfl
            clear hold hφ hcl hkp hd
            rw [if_pos (by rfl)]
            have hc := only_cell (HOr.out.drew.then hR [] (by simp) (by simp)) hbb hyb
            go_simp
            exact hK _ _ (Only.refl _ _) rfl
          · intro a W L N hR hold hφ hcl hkp hd K hK
            have e77 := got hφ (hd 9 (by kernel_rfl)) rfl rfl rfl
            have e81 := got hφ (hd 13 (by kernel_rfl)) rfl rfl rfl
            clear hold hφ hcl hkp hd
            rw [if_pos (by rfl)]
            go_simp
            exact hK _ _ (Only.refl _ _) rfl
          · intro a W L N hR hold hφ hcl hkp hd K hK
            have e68 := got hφ (hd 0 (by kernel_rfl)) rfl rfl rfl
            have e75 := got hφ (hd 7 (by kernel_rfl)) rfl rfl rfl
            clear hold hφ hcl hkp hd
            rw [if_pos (by rfl)]
            go_simp
            exact hK _ _ (Only.refl _ _) rfl

        · intro us W hO' hus
          have p82 : us 14 = .int .u8 (IntKind.u8.wrap ((v : Int) + (x : Int))) := hus 14 _ 82 (by omega) rfl rfl
          have p83 : us 15 = .pointer (some ⟨g4, t, none⟩) := hus 15 _ 83 (by omega) rfl rfl
          clear hus
          simp only [List.take_succ_cons, List.take_zero, List.drop_succ_cons, List.drop_zero, fillAct, Act.put, List.setIfInBounds_toArray, List.set_cons_zero, List.set_cons_succ, Nat.reduceAdd, p82, p83]
          obtain ⟨m, hm, hwm⟩ := wrap8 ((v : Int) + (x : Int))
          rw [hwm]
          have hc1 := only_cell hO' hg4l hcv
          have hf1 : W.frozen? ⟨g4, t, none⟩ = false := (hO'.frozen (p := ⟨g4, t, none⟩) hg4l (by simp)).trans hfv
          have hown2 := (Hown.out.more (Only.toBelow ((Only.refl [] wr).drew.then hO' [] (by simp) (by simp)))).set t m (by omega) hm
          have hOw2 : Only [] w3 (W.setCell ⟨g4, t, none⟩ (.int .u8 (m : Int))) := (HO.out.drew.then hO' [] (by simp) (by simp)).setCell (.inr (show w3.heap.size ≤ g4 from (Hown.out.lt g4 rfl).1)) _
          have Hown2 := Lib.hid hown2
          have HOw2 := Lib.hid hOw2
          clear hown2 hOw2 hO' hwm p82 p83
          go_wp2_with fail
          go_roundw
          case rel => exact ⟨j + 1, by omega, by go_num, L.set t (UInt8.ofNat m), by simpa using hL, Hown2.out, HOw2.out⟩
          case measure => simp [intOf]; omega
      · have Hown := Lib.hid hown
        have HO := Lib.hid hO
        clear hown hO
        by_cases g1 : j < zs.length
        · have q1 : (j : Int) < (zs.length : Int) := by omega
          by_cases g2 : j < ys.length
          · have q2 : (j : Int) < (ys.length : Int) := by omega
            have q3 : ¬ (j : Int) < 3 := by omega
            go_wp2
            go_meet
            exact ⟨L, hL, Hown.out, HO.out⟩
          · have q2 : ¬ (j : Int) < (ys.length : Int) := by omega
            go_wp2
            go_meet
            exact ⟨L, hL, Hown.out, HO.out⟩
        · have q1 : ¬ (j : Int) < (zs.length : Int) := by omega
          go_wp2
          go_meet
          exact ⟨L, hL, Hown.out, HO.out⟩
  case rest =>
    obtain ⟨L, hL, hown, hO⟩ := hcut
    obtain ⟨t, ht⟩ := Int.eq_ofNat_of_zero_le (Int.emod_nonneg cut (show (65 : Int) ≠ 0 by omega))
    have ht65 := Int.emod_lt_of_pos cut (show (0 : Int) < 65 by omega)
    have htl : t ≤ 64 := by omega
    have htc : (t : Int) ≤ (c3 : Int) := by omega
    have Ht := Lib.hid ht
    clear ht ht65 H4 HO4
    have Hs3d := Lib.hid ((Hs3.out.more hO).more ((Only.refl [] wc).drew))
    have HOw := Lib.hid (HO3.out.then hO.drew [] (by simp) (by simp))
    have Hrd := Lib.hid (Hr.out.more HOw.out)
    have Hown := Lib.hid (hown.more (Only.toBelow (Only.refl [] wc).drew))
    have hmk64 : ∀ W : World, (Instr.makeSlice 22 (.int .i64 64) (.int .i64 64)).run Try.prog W = .ok (.slice (some ⟨W.heap.size, 0, none⟩) 64 64) (W.alloc (.cells (bv (nul 64)).toArray 5)) := fun W => make_bytes W 64 (by omega)
    have Hne : Hid (bytesB p ≠ nul 64) := Lib.hid (fun e => by
      have h1 := parse_bytes Hok.out
      rw [e] at h1
      have h2 : parseB (nul 64) = none := parse_no (.inl (by decide +kernel))
      rw [h2] at h1; cases h1)
    clear hown hO
    go_upto_region 11 with fail
    generalize hwd : wc.drew = wd at Hs3d HOw Hrd Hown
    refine wp_region_stabK (P := Try.prog) 15 (by kernel_rfl) (by kernel_rfl) (fun i => i == 0 || i == 7 || i == 12 || i == 13 || i == 14) (Only []) (Only []) (Only.refl _ _) (fun _ _ _ h k => h.then k [] (by simp) (by simp)) 12 (Turns wd.heap.size (bytesB p))
      (fun u v hu ⟨g, cur, _, _, hg, hO⟩ => hu.then hO [] (by simp) (fun i hi => by simp only [List.mem_singleton] at hi; subst hi; right; rw [hwd]; exact hg))
      [SP.is (.slice (some ⟨g4, 0, none⟩) 64 c4),
       SP.is (.slice (some ⟨g3, 0, none⟩) 64 c3),
       SP.is (.int .i64 cut),
       SP.is (.slice (some ⟨g3, 0, none⟩) 64 c3),
       SP.is (.int .i64 64),
       SP.is (.int .i64 65),
       SP.is (.int .i64 (t : Nat)),
       SP.is (.slice (some ⟨g3, 0, none⟩) t c3),
       ⟨fun v _ => ∃ g, v = .slice (some ⟨g, 0, none⟩) 0 0, fun _ _ _ h _ => h⟩,
       SP.is (.slice (some ⟨g3, 0, none⟩) 64 c3),
       ⟨fun v W => OwnB W wd.heap.size v (bytesB p), fun _ _ _ h hO => h.more hO.toBelow⟩,
       SP.is (.slice ar rs.length capr),
       ⟨fun v W => ∃ a c, v = .slice a (64 + rs.length) c ∧ Src W a (64 + rs.length) (bytesB p ++ rs) ∧ 64 + rs.length ≤ c, fun _ _ _ ⟨a, c, e, h, k⟩ hO => ⟨a, c, e, h.more hO, k⟩⟩,
       SP.is (.slice ar rs.length capr),
       ⟨fun v W => ∃ g, v = .slice (some ⟨g, 0, none⟩) 64 64 ∧ IsBlk W g (.cells (bv (nul 64)).toArray 5), fun _ _ _ ⟨g, e, h⟩ hO => ⟨g, e, h.only hO (by simp)⟩⟩] ?_ ?_ ?_
    all_goals try rw [hwd]
    · intro i v u u' hi hne hneed h ht
      have hcs : i = 0 ∨ i = 1 ∨ i = 2 ∨ i = 3 ∨ i = 4 ∨ i = 5 ∨ i = 6 ∨ i = 7 ∨ i = 8 ∨ i = 9 ∨ i = 10 ∨ i = 11 ∨ i = 13 ∨ i = 14 := by omega
      rcases hcs with rfl | rfl | rfl | rfl | rfl | rfl | rfl | rfl | rfl | rfl | rfl | rfl | rfl | rfl
      case inr.inr.inr.inr.inr.inr.inr.inr.inr.inr.inl =>
        rcases hneed with hk | ⟨j, hjn, hj, hd⟩
        · cases hk
        · exact absurd (dep_only (n := 15) (k := 12) (by kernel_rfl) j hjn hd) hj
      case inr.inr.inr.inr.inr.inr.inr.inr.inr.inr.inr.inr.inr =>
        obtain ⟨g, e, hb⟩ := h
        exact ⟨g, e, turns_not ht Hlen.out Hne.out hb⟩
      all_goals exact h
    · simp only [List.take_succ_cons, List.take_zero]
      refine StepsOK.cons ?_ (StepsOK.cons ?_ (StepsOK.cons ?_ (StepsOK.cons ?_ (StepsOK.cons ?_ (StepsOK.cons ?_ (StepsOK.cons ?_ (StepsOK.cons ?_ (StepsOK.cons ?_ (StepsOK.cons ?_ (StepsOK.cons ?_ (StepsOK.cons ?_ (StepsOK.cons ?_ (StepsOK.cons ?_ (StepsOK.cons ?_ StepsOK.nil))))))))))))))
      · intro a W L' N hR hold hφ hcl hkp hd K hK
        have e21 := hold 21 (by kernel_rfl)
        clear hold hφ hcl hkp hd
        rw [if_pos (by rfl)]
        go_simp
        exact hK _ _ (Only.refl _ _) rfl
      · intro a W L' N hR hold hφ hcl hkp hd K hK
        have e19 := hold 19 (by kernel_rfl)
        clear hold hφ hcl hkp hd
        rw [if_pos (by rfl)]
        go_simp
        exact hK _ _ (Only.refl _ _) rfl
      · intro a W L' N hR hold hφ hcl hkp hd K hK
        have e7 := hold 7 (by kernel_rfl)
        clear hold hφ hcl hkp hd
        rw [if_pos (by rfl)]
        go_simp
        exact hK _ _ (Only.refl _ _) rfl
      · intro a W L' N hR hold hφ hcl hkp hd K hK
        have e19 := hold 19 (by kernel_rfl)
        clear hold hφ hcl hkp hd
        rw [if_pos (by rfl)]
        go_simp
        exact hK _ _ (Only.refl _ _) rfl
      · intro a W L' N hR hold hφ hcl hkp hd K hK
        have e87 := got hφ (hd 3 (by kernel_rfl)) rfl rfl rfl
        clear hold hφ hcl hkp hd
        rw [if_pos (by rfl)]
        go_simp
        exact hK _ _ (Only.refl _ _) rfl
      · intro a W L' N hR hold hφ hcl hkp hd K hK
        have e88 := got hφ (hd 4 (by kernel_rfl)) rfl rfl rfl
        clear hold hφ hcl hkp hd
        rw [if_pos (by rfl)]
        go_simp
        exact hK _ _ (Only.refl _ _) rfl
      · intro a W L' N hR hold hφ hcl hkp hd K hK
        have e86 := got hφ (hd 2 (by kernel_rfl)) rfl rfl rfl
        have e89 := got hφ (hd 5 (by kernel_rfl)) rfl rfl rfl
        clear hold hφ hcl hkp hd
        rw [if_pos (by rfl)]
        go_simp
        refine (within_any _ cut 65 (by omega) (by omega)).mono ?_
        rintro e w' ⟨rfl, rfl⟩
        rw [Ht.out]
        exact hK _ _ (Only.refl _ _) rfl
      · intro a W L' N hR hold hφ hcl hkp hd K hK
        have e85 := got hφ (hd 1 (by kernel_rfl)) rfl rfl rfl
        have e90 := got hφ (hd 6 (by kernel_rfl)) rfl rfl rfl
        clear hold hφ hcl hkp hd
        rw [if_pos (by rfl)]
        go_simp
        exact hK _ _ (Only.refl _ _) rfl
      · intro a W L' N hR hold hφ hcl hkp hd K hK
        clear hold hφ hcl hkp hd
        rw [if_pos (by rfl)]
        go_simp
        exact hK _ _ ((Only.refl _ _).alloc _) ⟨_, rfl⟩
      · intro a W L' N hR hold hφ hcl hkp hd K hK
        have e19 := hold 19 (by kernel_rfl)
        clear hold hφ hcl hkp hd
        rw [if_pos (by rfl)]
        go_simp
        exact hK _ _ (Only.refl _ _) rfl
      · intro a W L' N hR hold hφ hcl hkp hd K hK
        obtain ⟨u92, e92, g92, p92⟩ := gotP hφ (hd 8 (by kernel_rfl)) rfl rfl rfl
        have p92 : u92 = .slice (some ⟨g92, 0, none⟩) 0 0 := p92
        subst p92
        have e93 := got hφ (hd 9 (by kernel_rfl)) rfl rfl rfl
        clear hold hφ hcl hkp hd
        rw [if_pos (by rfl)]
        refine wp_append_new _ _ rfl g92 (by simp [Act.eval, e92]) (some ⟨g3, 0, none⟩) 64 c3 (bytesB p) (by simp [Act.eval, e93]) (Hs3d.out.more hR) (by omega) ?_
        intro v' W' _ hown hO'
        exact hK _ _ hO' ((hown (by omega)).lower hR.size)
      · intro a W L' N hR hold hφ hcl hkp hd K hK
        have e8 := hold 8 (by kernel_rfl)
        clear hold hφ hcl hkp hd
        rw [if_pos (by rfl)]
        go_simp
        exact hK _ _ (Only.refl _ _) rfl
      · intro a W L' N hR hold hφ hcl hkp hd K hK
        obtain ⟨u94, e94, p94⟩ := gotP hφ (hd 10 (by kernel_rfl)) rfl rfl rfl
        have p94 : OwnB W wd.heap.size u94 (bytesB p) := p94
        have e95 := got hφ (hd 11 (by kernel_rfl)) rfl rfl rfl
        clear hold hφ hcl hkp hd
        rw [if_pos (by rfl)]
        obtain ⟨g94, c94, cur94, e', hg94, hb94, hc94, hr94⟩ := p94.full (by rw [Hlen.out]; omega)
        subst e'
        refine wp_append_mine _ _ rfl wd.heap.size g94 _ c94 (bytesB p) (by simp [Act.eval, e94]) p94 ar rs.length capr rs (by simp [Act.eval, e95]) (Hrd.out.more hR) (by rw [Hlen.out]; omega) hR.size ?_
        intro v' W' hown hO'
        obtain ⟨a', c', e, hs', _⟩ := hown.shape
        have hl' : (bytesB p ++ rs).length = 64 + rs.length := by rw [List.length_append, Hlen.out]
        obtain ⟨g', cc, cur', e2, _, _, hcc, _⟩ := hown.full (by rw [hl']; omega)
        rw [hl'] at e hs' e2 hcc
        exact hK _ _ ⟨g94, cur94, hb94, fun i hi => by rw [← hb94.cell i, ← Nat.zero_add i, hr94 i _ (List.getElem?_eq_getElem (by rw [length_bv, Hlen.out]; exact hi)), Nat.zero_add, List.getElem?_eq_getElem], hg94, hO'⟩ ⟨a', c', e, hs', by rw [e] at e2; injection e2 with _ _ e3; omega⟩
      · intro a W L' N hR hold hφ hcl hkp hd K hK
        have e8 := hold 8 (by kernel_rfl)
        clear hold hφ hcl hkp hd
        rw [if_pos (by rfl)]
        go_simp
        exact hK _ _ (Only.refl _ _) rfl
      · intro a W L' N hR hold hφ hcl hkp hd K hK
        clear hold hφ hcl hkp hd
        rw [if_pos (by rfl)]
        go_simp
        exact hK _ _ ((Only.refl _ _).alloc _) ⟨_, rfl, IsBlk.made _ _⟩
    · intro us W hO hus
      have p84 : us 0 = .slice (some ⟨g4, 0, none⟩) 64 c4 := hus 0 _ 84 (by omega) rfl rfl rfl
      have p91 : us 7 = .slice (some ⟨g3, 0, none⟩) t c3 := hus 7 _ 91 (by omega) rfl rfl rfl
      have p96 : ∃ a c, us 12 = .slice a (64 + rs.length) c ∧ Src W a (64 + rs.length) (bytesB p ++ rs) ∧ 64 + rs.length ≤ c := hus 12 _ 96 (by omega) rfl rfl rfl
      have p97 : us 13 = .slice ar rs.length capr := hus 13 _ 97 (by omega) rfl rfl rfl
      have p98 : ∃ g, us 14 = .slice (some ⟨g, 0, none⟩) 64 64 ∧ IsBlk W g (.cells (bv (nul 64)).toArray 5) := hus 14 _ 98 (by omega) rfl rfl rfl
      obtain ⟨a96, c96, e96, s96, k96⟩ := p96
      obtain ⟨g98, e98, b98⟩ := p98
      clear hus
      simp only [List.take_succ_cons, List.take_zero, List.drop_succ_cons, List.drop_zero, fillAct, Act.put, List.setIfInBounds_toArray, List.set_cons_zero, List.set_cons_succ, Nat.reduceAdd, p84, p91, e96, p97, e98]
      have hO' : Only [] W (W.alloc (.cells #[.slice (some ⟨g4, 0, none⟩) 64 c4, .slice (some ⟨g3, 0, none⟩) t c3, .slice a96 (64 + rs.length) c96, .slice ar rs.length capr, .slice (some ⟨g98, 0, none⟩) 64 64] 22)) := (Only.refl [] W).alloc _
      have hF : Five (W.alloc (.cells #[.slice (some ⟨g4, 0, none⟩) 64 c4, .slice (some ⟨g3, 0, none⟩) t c3, .slice a96 (64 + rs.length) c96, .slice ar rs.length capr, .slice (some ⟨g98, 0, none⟩) 64 64] 22)) W.heap.size := by
        have hb := IsBlk.made W (.cells #[.slice (some ⟨g4, 0, none⟩) 64 c4, .slice (some ⟨g3, 0, none⟩) t c3, .slice a96 (64 + rs.length) c96, .slice ar rs.length capr, .slice (some ⟨g98, 0, none⟩) 64 64] 22)
        intro k hk
        have hcs : k = 0 ∨ k = 1 ∨ k = 2 ∨ k = 3 ∨ k = 4 := by omega
        rcases hcs with rfl | rfl | rfl | rfl | rfl
        · obtain ⟨a', c', e', hs', _⟩ := Hown.out.shape
          rw [hL] at e' hs'
          injection e' with e1 _ e2
          subst e1
          exact ⟨_, _, _, L, hb.cell 0, (hs'.more hO).more hO', by omega, by omega⟩
        · exact ⟨_, _, _, _, hb.cell 1, ((Hs3d.out.sub 0 t (by omega)).more hO).more hO', by omega, by omega⟩
        · exact ⟨_, _, _, _, hb.cell 2, s96.more hO', k96, by omega⟩
        · exact ⟨_, _, _, _, hb.cell 3, (Hrd.out.more hO).more hO', hcr, by omega⟩
        · exact ⟨_, _, _, _, hb.cell 4, (src_all b98 (length_nul 64)).more hO', by omega, by omega⟩
      have hOe := (HOw.out.then hO [] (by simp) (by simp)).then hO' [] (by simp) (by simp)
      have HF := Lib.hid hF
      have HOe := Lib.hid hOe
      clear hF hOe hO' hO p84 p91 e96 p97 e98 s96 b98
      go_upto_block 2 with fail
      rw [hwd] at *
      go_wp2_with fail
      generalize hwe : W.alloc (.cells #[.slice (some ⟨g4, 0, none⟩) 64 c4, .slice (some ⟨g3, 0, none⟩) t c3, .slice a96 (64 + rs.length) c96, .slice ar rs.length capr, .slice (some ⟨g98, 0, none⟩) 64 64] 22) = we at *
      have hgF : W.heap.size < we.heap.size := by rw [← hwe]; simp
      generalize W.heap.size = gF at *
      clear hwe hwd Hown Hrd Hs3d HOw Hne
      go_loopw [24] (fun i wr => ∃ k : Nat, k ≤ 5 ∧ i = .int .i64 k ∧ Only [] we wr) (fun i _ => 5 - (intOf i).toNat)
      case atStart => exact ⟨0, Nat.zero_le _, rfl, Only.refl _ _⟩
      case round =>
        obtain ⟨k, hk, rfl, hO⟩ := hrel
        by_cases hlt : k < 5
        · have hlti : (k : Int) < 5 := by omega
          obtain ⟨ax, nx, cx, lx, hcx, hsx, hncx, hnx⟩ := (HF.out.more hgF hO) k hlt
          have hsx1 := Lib.hid (hsx.more ((Only.refl [] wr).alloc (.cells #[] 5)))
          have HO := Lib.hid hO
          have hOe0 := Lib.hid ((Only.refl [] wr).alloc (.cells #[] 5))
          have Hsx := Lib.hid hsx
          have hgr := hO.size
          have hgl : gF < wr.heap.size := by omega
          have hcx1 : (wr.alloc (.cells #[] 5)).cell? ⟨gF, k, none⟩ = some (.slice ax nx cx) := only_cell hOe0.out hgl hcx
          clear hO hsx
          go_wp2_with (at_builtin; refine wpList_append_fresh rfl _ _ rfl _ rfl ax nx cx lx rfl hsx1.out (by omega) ?_; rintro v5 w5 ⟨a5, c5, rfl, hs5, hc5⟩ _ hO5)
          have HO15 := Lib.hid (hOe0.out.then hO5 [] (by simp) (by simp))
          clear hO5
          refine (parse_src _ a5 nx c5 lx hs5 hc5).mono ?_
          clear hs5
          cases hp : parseB lx with
          | none =>
            rintro e w6 ⟨rfl, hO6⟩
            unfold part0
            have hO16 : Only [] wr w6 := HO15.out.then hO6 [] (by simp) (by simp)
            have hcx6 : ∀ ob, (w6.alloc ob).cell? ⟨gF, k, none⟩ = some (.slice ax nx cx) := fun ob => only_cell (hO16.alloc ob) hgl hcx
            have Hs6 : ∀ ob, Hid (Src (w6.alloc ob) ax nx lx) := fun ob => Lib.hid (Hsx.out.more (hO16.alloc ob))
            have HO16 := Lib.hid hO16
            clear hO6 hO16 hcx hcx1
            go_wp2_with fail
            refine (refparse_src _ ax nx cx lx (Hs6 _).out hncx).mono ?_
            rw [hp]
            rintro e w7 ⟨rfl, hO7⟩
            unfold part0
            have hb6 := IsBlk.only (IsBlk.made w6 (.cells #[.int .i64 0, .int .i64 0, .int .i64 0, .int .i64 0, .slice none 0 0] 33)) hO7 (by simp)
            have hb6l := hb6.lt
            have f0 : ∀ ob, (w7.alloc ob).cell? ⟨w6.heap.size, 0, none⟩ = some (.int .i64 0) := fun ob => (hb6.alloc ob).cell 0
            have f1 : ∀ ob, (w7.alloc ob).cell? ⟨w6.heap.size, 1, none⟩ = some (.int .i64 0) := fun ob => (hb6.alloc ob).cell 1
            have f2 : ∀ ob, (w7.alloc ob).cell? ⟨w6.heap.size, 2, none⟩ = some (.int .i64 0) := fun ob => (hb6.alloc ob).cell 2
            have f3 : ∀ ob, (w7.alloc ob).cell? ⟨w6.heap.size, 3, none⟩ = some (.int .i64 0) := fun ob => (hb6.alloc ob).cell 3
            have f4 : ∀ ob, (w7.alloc ob).cell? ⟨w6.heap.size, 4, none⟩ = some (.slice none 0 0) := fun ob => (hb6.alloc ob).cell 4
            have hO17 : Only [] wr w7 := (HO16.out.alloc _).then hO7 [] (by simp) (by simp)
            have HO17 := Lib.hid hO17
            clear hO7 hO17 hb6 Hs6 hcx6
            go_wp2_with fail
            refine (same_eq _ 0 0 0 0 none none 0 0 0 [] ⟨rfl, fun h => by omega⟩ ⟨rfl, fun h => by omega⟩).mono ?_
            rintro e w8 ⟨rfl, hO8⟩
            have hO18 : Only [] we w8 := HO.out.then ((HO17.out.alloc _).then hO8 [] (by simp) (by simp)) [] (by simp) (by simp)
            have HO18 := Lib.hid hO18
            clear hO8 hO18
            go_wp2_with fail
            go_roundw
            case rel => exact ⟨k + 1, by omega, by go_num, HO18.out⟩
            case measure => simp [intOf]; omega
          | some q =>
            rintro e w6 ⟨gd5, rfl, hbq, hlq, hgq, hO6⟩
            have hsq := src_all hbq hlq
            clear hbq hlq hgq
            have hO16 : Only [] wr w6 := HO15.out.then hO6 [] (by simp) (by simp)
            have hcx6 : ∀ ob, (w6.alloc ob).cell? ⟨gF, k, none⟩ = some (.slice ax nx cx) := fun ob => only_cell (hO16.alloc ob) hgl hcx
            have Hs6 : ∀ ob, Hid (Src (w6.alloc ob) ax nx lx) := fun ob => Lib.hid (Hsx.out.more (hO16.alloc ob))
            have HO16 := Lib.hid hO16
            clear hO6 hO16 hcx hcx1
            go_wp2_with fail
            refine (refparse_src _ ax nx cx lx (Hs6 _).out hncx).mono ?_
            rw [hp]
            rintro e w7 ⟨a7, c7, rfl, hs7, hO7⟩
            have hb6 := IsBlk.only (IsBlk.made w6 (.cells #[.int .i64 q.g, .int .i64 q.r, .int .i64 q.n, .int .i64 q.o, .slice (some ⟨gd5, 0, none⟩) 52 52] 33)) hO7 (by simp)
            have hb6l := hb6.lt
            have f0 : ∀ ob, (w7.alloc ob).cell? ⟨w6.heap.size, 0, none⟩ = some (.int .i64 q.g) := fun ob => (hb6.alloc ob).cell 0
            have f1 : ∀ ob, (w7.alloc ob).cell? ⟨w6.heap.size, 1, none⟩ = some (.int .i64 q.r) := fun ob => (hb6.alloc ob).cell 1
            have f2 : ∀ ob, (w7.alloc ob).cell? ⟨w6.heap.size, 2, none⟩ = some (.int .i64 q.n) := fun ob => (hb6.alloc ob).cell 2
            have f3 : ∀ ob, (w7.alloc ob).cell? ⟨w6.heap.size, 3, none⟩ = some (.int .i64 q.o) := fun ob => (hb6.alloc ob).cell 3
            have f4 : ∀ ob, (w7.alloc ob).cell? ⟨w6.heap.size, 4, none⟩ = some (.slice (some ⟨gd5, 0, none⟩) 52 52) := fun ob => (hb6.alloc ob).cell 4
            have hO17 : Only [] wr w7 := (HO16.out.alloc _).then hO7 [] (by simp) (by simp)
            have HO17 := Lib.hid hO17
            have Hs7 : ∀ ob, Hid (Src (w7.alloc ob) a7 52 q.d) := fun ob => Lib.hid (hs7.more ((Only.refl [] w7).alloc ob))
            have Hs5 : ∀ ob, Hid (Src (w7.alloc ob) (some ⟨gd5, 0, none⟩) 52 q.d) := fun ob => Lib.hid (((hsq.more ((Only.refl [] w6).alloc _)).more hO7).more ((Only.refl [] w7).alloc ob))
            clear hs7 hsq
            clear hO7 hO17 hb6 Hs6 hcx6
            go_wp2_with fail
            refine (same_eq _ q.g q.r q.n q.o (some ⟨gd5, 0, none⟩) a7 52 52 c7 q.d (Hs5 _).out (Hs7 _).out).mono ?_
            rintro e w8 ⟨rfl, hO8⟩
            have hO18 : Only [] we w8 := HO.out.then ((HO17.out.alloc _).then hO8 [] (by simp) (by simp)) [] (by simp) (by simp)
            have HO18 := Lib.hid hO18
            clear hO8 hO18
            go_wp2_with fail
            go_roundw
            case rel => exact ⟨k + 1, by omega, by go_num, HO18.out⟩
            case measure => simp [intOf]; omega
        · have hlti : ¬ (k : Int) < 5 := by omega
          have HOf := Lib.hid (HOe.out.then hO [] (by simp) (by simp))
          clear hO
          go_wp2
          go_ret
          exact ⟨rfl, HOf.out⟩

end Go.Proofs.Ytiegkdkbkkbjpaa
