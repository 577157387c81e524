/-
  The walk of the law ParseReads.
-/
import Derived.Test.YtonpfmhdefhhmaaPcM
import Derived.Laws.IdiomStrings
namespace Go.Proofs.Ytonpfmhdefhhmaa
set_option maxRecDepth 100000
set_option linter.unusedVariables false
open Go.RowKit Go.Sort

def fW6 : List UInt8 := [102, 117, 110, 99, 32, 102, 32]
def fbW6 : List UInt8 := [102, 117, 110, 99, 32, 102, 32, 123, 32]
def eightT (s s2 raw T : List UInt8) (k : Nat) : List (List UInt8) := [s, s2, s.take k, s.take k ++ (T ++ s.drop k), T, raw, fW6 ++ T, fbW6 ++ (T ++ [32, 125])]
def eight (s s2 raw T : List UInt8) (k : Nat) : List Value := (eightT s s2 raw T k).map encStr
theorem eight_len {s s2 raw T : List UInt8} {k : Nat} (h1 : s.length ≤ 4000) (h2 : s2.length = s.length) (h3 : raw.length ≤ 300) (h4 : T.length ≤ 2000) : ∀ x ∈ eightT s s2 raw T k, x.length ≤ 100000 := by
  intro x hx
  simp only [eightT, List.mem_cons, List.not_mem_nil, or_false] at hx
  rcases hx with rfl | rfl | rfl | rfl | rfl | rfl | rfl | rfl
  all_goals try simp only [List.length_append, List.length_take, List.length_drop, fW6, fbW6, List.length_cons, List.length_nil]
  all_goals omega

theorem conv_back {W : World} {g c : Nat} (l : List UInt8) (h : W.rangeAt g 0 (bv l)) : (convert 32 9 (.slice (some ⟨g, 0, none⟩) l.length c)).run Try.prog W = .ok (.string ⟨l.toArray⟩) W :=
  run_convert_bytes_back (P := Try.prog) W 32 9 5 ⟨g, 0, none⟩ c l Try.underlying32 Try.underlying5 Try.underlying9 (fun j hj => by
    have := h j (.int .u8 (l[j].toNat : Int)) (by simp [bv, List.getElem?_eq_getElem hj])
    rw [Nat.zero_add] at this
    rw [Addr.add_mid, Nat.zero_add]
    exact this)
theorem range_put {W : World} {g : Nat} {l : List UInt8} (h : W.rangeAt g 0 (bv l)) (k : Nat) (hk : k < l.length) (b : UInt8) : (W.setCell ⟨g, k, none⟩ (.int .u8 (b.toNat : Int))).rangeAt g 0 (bv (l.set k b)) := by
  intro j v hv
  have hj : j < l.length := by have := (List.getElem?_eq_some_iff.1 hv).1; simpa [bv] using this
  have h0 := h j (.int .u8 (l[j].toNat : Int)) (by simp [bv, List.getElem?_eq_getElem hj])
  rw [Nat.zero_add] at h0 ⊢
  by_cases e : j = k
  · subst e
    rw [World.cell?_setCell_same _ _ _ h0]
    have : v = .int .u8 (b.toNat : Int) := by
      have hv' := hv
      simp [bv, hj] at hv'
      exact hv'.symm
    rw [this]
  · rw [World.cell?_setCell_other _ _ _ _ (by intro h1; injection h1 with _ h2 _; exact e h2.symm), h0]
    have hv' := hv
    simp [bv, Ne.symm e, hj] at hv'
    rw [hv']
theorem u8_of (x : Int) : ∃ b : UInt8, IntKind.u8.wrap x = (b.toNat : Int) := by
  have h0 : IntKind.u8.wrap x = x % 256 := by simp [IntKind.wrap, IntKind.signed, IntKind.bits]
  refine ⟨UInt8.ofNat (x % 256).toNat, ?_⟩
  rw [h0]
  have h1 : (x % 256).toNat < 256 := by omega
  rw [UInt8.toNat_ofNat_of_lt' (by simpa using h1)]
  omega
theorem progT_pos (P : ProgM) (h : 0 < P.vars.length) : 0 < (progT P).length := by
  unfold progT
  cases hv : P.vars with
  | nil => rw [hv] at h; simp at h
  | cons d r =>
    simp only [List.flatMap_cons, List.length_append, lineD_eq, List.length_cons]
    omega

set_option maxHeartbeats 16000000 in
theorem preads_walk (va vb : Value) (a b : RawM) (an : Option Addr) (len cap : Nat) (ns : List Int) (at0 : Int) (by0 : Int) (cut0 : Int) (raw : List UInt8) (w : World) (ha : RawAt w va a) (hb : RawAt w vb b) (hns : IntsArg w an len ns) (hraw : raw.length ≤ maxLen) :
    Calls Try.prog 3 #[va, vb, .slice an len cap, .int .i64 at0, .int .u8 by0, .int .i64 cut0, encStr raw] w fun e w' => e = .returned (.bool true) ∧ Only [] w w' := by
  unfold maxLen at hraw
  have Ha := Lib.hid ha
  have Hb := Lib.hid hb
  have Hns := Lib.hid hns
  obtain ⟨aa, ca, rfl, -⟩ := ha
  obtain ⟨ab, cb, rfl, -⟩ := hb
  clear hns
  unfold encStr
  go_enter Try.func3, Try.ntmps3
  go_wp2_with fail
  refine (known6_any _).mono ?_
  rintro e w0 ⟨rfl, hO0⟩
  have HO0 := Lib.hid hO0
  clear hO0
  go_wp2_with fail
  refine (few6_any a _ _ (Ha.out.more HO0.out)).mono ?_
  rintro e w1 ⟨rfl, hO1⟩
  have HO1 := Lib.hid (HO0.out.plus hO1)
  clear hO1
  by_cases hfa : sizeM a 0 ≤ 40
  · rw [show decide (sizeM a 0 ≤ 40) = true from by simp [hfa]]
    have Hfa : Hid (FewR a) := Lib.hid hfa
    clear hfa
    go_wp2_with fail
    refine (few6_any b _ _ (Hb.out.more HO1.out)).mono ?_
    rintro e w2 ⟨rfl, hO2⟩
    have HO2 := Lib.hid (HO1.out.plus hO2)
    clear hO2
    by_cases hfb : sizeM b 0 ≤ 40
    · rw [show decide (sizeM b 0 ≤ 40) = true from by simp [hfb]]
      have Hfb : Hid (FewR b) := Lib.hid hfb
      clear hfb
      by_cases hr3 : raw.length ≤ 300
      · have hr3i : ¬ (300 : Int) < (raw.length : Int) := by omega
        have hnil : ∀ W, RawAt W (.slice none 0 0) .nil := fun W => ⟨none, 0, rfl, Nat.zero_le _, fun h => by simp [RawM.len] at h⟩
        have hP1 := prog6_any a b .nil .nil 1 w2 _ _ _ _ (Ha.out.more HO2.out) (Hb.out.more HO2.out) (hnil _) (hnil _) (by have := few_cnt Hfa.out; omega) (by have := few_cnt Hfb.out; omega) (by simp [RawM.cnt]) (by simp [RawM.cnt])
        obtain ⟨-, hB, hL⟩ := progR_good 1 Hfa.out Hfb.out few_nil few_nil
        have hn := small_prog a b .nil .nil 1
        have hs0 : 0 < (progT (progR a b .nil .nil 1)).length := progT_pos _ (by show 0 < 3; omega)
        have HP1 := Lib.hid hP1
        have HG := Lib.hid (And.intro hB (And.intro hL (And.intro hn hs0)))
        clear hnil hP1 hB hL hn hs0 Hfa Hfb
        generalize progR a b .nil .nil 1 = P at *
        go_wp2_with fail
        refine HP1.out.mono ?_
        rintro e w3 ⟨pv, pl, pf, rfl, hP, hO3⟩
        obtain ⟨hB, hL, hn, hs0⟩ := HG.out
        have HT := Lib.hid (rtext_any w3 pv pl pf P hP (by omega) (fun f hf => (hB f hf).2) ⟨by omega, by omega, by omega⟩)
        have HO3 := Lib.hid (HO2.out.plus hO3)
        clear hO3 hP hB hn HG HP1
        go_wp2_with fail
        refine HT.out.mono ?_
        rintro e w4 ⟨rfl, hO4⟩
        have HO4 := Lib.hid (HO3.out.plus hO4)
        clear hO4 HT
        unfold encStr
        generalize progT P = s at *
        obtain ⟨c, w5, hcv, hO5, hg5, hra, hfz⟩ := bytes_conv w4 s
        generalize hg : w4.heap.size = g at *
        have HO5 := Lib.hid (HO4.out.plus hO5)
        have HO45 := Lib.hid hO5
        have Hg4 : Hid (w4.heap.size ≤ g) := Lib.hid (by omega)
        have Hra := Lib.hid hra
        have Hgw : Hid (w.heap.size ≤ g) := Lib.hid (by have := HO4.out.size; omega)
        have hsi0 : (0 : Int) < (s.length : Int) := by omega
        clear hO5 hra
        have hk1 := inM_lt at0 s.length hs0
        have hk0 : (0 : Int) ≤ (inM at0 s.length : Int) := by omega
        have hki : (inM at0 s.length : Int) < (s.length : Int) := by omega
        have hgetb : (bv s)[inM at0 s.length]? = some (.int .u8 ((s[inM at0 s.length]'hk1).toNat : Int)) := by simp [bv, List.getElem?_eq_getElem hk1]
        have hld := Hra.out _ _ hgetb
        rw [Nat.zero_add] at hld
        have hfz := hfz _ hk1
        clear hgetb hg
        have hWi := within6_to w5 at0 s.length (by omega) (by omega)
        rw [show ((s.length : Nat) : Int).toNat = s.length from rfl] at hWi
        have HWi := Lib.hid hWi
        clear hWi
        go_wp2_with fail
        refine HWi.out.mono ?_
        rintro e w' ⟨rfl, rfl⟩
        obtain ⟨b8, hb8⟩ := u8_of (((s[inM at0 s.length]'hk1).toNat : Int) + by0)
        have hra6 := range_put Hra.out _ hk1 b8
        have hO6 : Only [] w4 (w5.setCell ⟨g, inM at0 s.length, none⟩ (.int .u8 (b8.toNat : Int))) := by
          have hOb : Only [g] w5 (w5.setCell ⟨g, inM at0 s.length, none⟩ (.int .u8 (b8.toNat : Int))) := (Only.refl [g] w5).setCell (p := ⟨g, inM at0 s.length, none⟩) (.inl (by simp)) _
          exact (HO45.out).then hOb [] (by simp) (fun i hi => .inr (by simp only [List.mem_singleton] at hi; have := Hg4.out; omega))
        have HO6 := Lib.hid (HO4.out.plus hO6)
        have Hra6 := Lib.hid hra6
        have HO56 : Hid (g < (w5.setCell ⟨g, inM at0 s.length, none⟩ (.int .u8 (b8.toNat : Int))).heap.size) := Lib.hid (by simp; exact hg5)
        clear hra6 hO6
        go_upto_region 8 with fail
        generalize hW6 : w5.setCell ⟨g, inM at0 s.length, none⟩ (.int .u8 (b8.toNat : Int)) = w6 at *
        clear hW6 hld hfz hcv hb8 hk0 hki
        have hs2 : (s.set (inM at0 s.length) b8).length = s.length := by simp
        generalize s.set (inM at0 s.length) b8 = s2 at *
        generalize s[inM at0 s.length] = sb at *
        clear hk1
        have hg6 : g < w6.heap.size := by have := HO56.out; omega
        have hw1 : IntKind.i64.wrap ((s.length : Int) + 1) = (s.length : Int) + 1 := Go.IntWalk.i64_in _ (by omega)
        have hk := inM_lt cut0 (s.length + 1) (by omega)
        have hWi := within6_to w6 cut0 ((s.length : Int) + 1) (by omega) (by omega)
        rw [show ((s.length : Int) + 1).toNat = s.length + 1 by omega] at hWi
        have HWi := Lib.hid hWi
        clear hWi
        go_wp2_with fail
        refine HWi.out.mono ?_
        rintro e w' ⟨rfl, rfl⟩
        generalize inM cut0 (s.length + 1) = k at *
        go_upto_region 9 with fail
        clear hw1
        have HTx := Lib.hid (fun W (hW : Only [] w6 W) => text_any W an len cap ns ((Hns.out.1.more ((HO6.out.plus hW)))) Hns.out.2)
        have hTl : (textM ns (min len 150)).length ≤ 2000 := by have := textM_len ns (min len 150); omega
        unfold encStr at HTx
        generalize textM ns (min len 150) = T at *
        have hsl : s.length ≤ 4000 := hL
        have hki : (k : Int) ≤ (s.length : Int) := by omega
        have hk0 : (0 : Int) ≤ (k : Int) := by omega
        have hx1 : (⟨s.toArray⟩ : ByteArray).extract 0 k = ⟨(s.take k).toArray⟩ := by rw [ByteArray.extract_mk]; simp
        have hx2 : (⟨s.toArray⟩ : ByteArray).extract k s.length = ⟨(s.drop k).toArray⟩ := by
          rw [ByteArray.extract_mk]
          simp
          exact List.take_of_length_le (by simp)
        have ha1 : ∀ W : World, (Op.stringOp .add ⟨(s.take k).toArray⟩ ⟨T.toArray⟩).run Try.prog W = .ok (.string ⟨(s.take k ++ T).toArray⟩) W := fun W => by
          rw [run_string_add_sum (P := Try.prog) W _ _ (by simp [ByteArray.size]; omega), append_list]
        have ha2 : ∀ W : World, (Op.stringOp .add ⟨(s.take k ++ T).toArray⟩ ⟨(s.drop k).toArray⟩).run Try.prog W = .ok (.string ⟨(s.take k ++ (T ++ s.drop k)).toArray⟩) W := fun W => by
          rw [run_string_add_sum (P := Try.prog) W _ _ (by simp [ByteArray.size]; omega), append_list, List.append_assoc]
        have ha3 : ∀ W : World, (Op.stringOp .add ⟨#[102, 117, 110, 99, 32, 102, 32]⟩ ⟨T.toArray⟩).run Try.prog W = .ok (.string ⟨(fW6 ++ T).toArray⟩) W := fun W => by
          rw [run_string_add_sum (P := Try.prog) W _ _ (by simp [ByteArray.size]; omega)]
          exact congrArg (fun x => Result.ok (Value.string x) W) (append_list fW6 T)
        have ha4 : ∀ W : World, (Op.stringOp .add ⟨#[102, 117, 110, 99, 32, 102, 32, 123, 32]⟩ ⟨T.toArray⟩).run Try.prog W = .ok (.string ⟨(fbW6 ++ T).toArray⟩) W := fun W => by
          rw [run_string_add_sum (P := Try.prog) W _ _ (by simp [ByteArray.size]; omega)]
          exact congrArg (fun x => Result.ok (Value.string x) W) (append_list fbW6 T)
        have ha5 : ∀ W : World, (Op.stringOp .add ⟨(fbW6 ++ T).toArray⟩ ⟨#[32, 125]⟩).run Try.prog W = .ok (.string ⟨(fbW6 ++ (T ++ [32, 125])).toArray⟩) W := fun W => by
          rw [run_string_add_sum (P := Try.prog) W _ _ (by simp [ByteArray.size, fbW6]; omega)]
          rw [← List.append_assoc]
          exact congrArg (fun x => Result.ok (Value.string x) W) (append_list (fbW6 ++ T) [32, 125])
        have Hcv := Lib.hid (fun W (hW : Only [] w6 W) => by
          have h1 := conv_back (c := c) s2 (rangeAt_only Hra6.out hW hg6 (by simp))
          rw [hs2] at h1
          exact h1)
        have hdr : Only [] w6 w6.drew := (Only.refl [] w6).drew
        have HEl := Lib.hid (eight_len (s := s) (s2 := s2) (raw := raw) (T := T) (k := k) hsl hs2 hr3 hTl)
        clear hs2
        refine wp_region_stabL (P := Try.prog) 27 (by kernel_rfl) (by kernel_rfl) (Only []) (Only.refl _ _) (fun _ _ _ h k => h.then k [] (by simp) (by simp))
          [SP.is (.string ⟨s.toArray⟩),
           SP.is (.slice (some ⟨g, 0, none⟩) s.length c),
           SP.is (.string ⟨s2.toArray⟩),
           SP.is (.string ⟨s.toArray⟩),
           SP.is (.int .i64 k),
           SP.is (.string ⟨(s.take k).toArray⟩),
           SP.is (.string ⟨s.toArray⟩),
           SP.is (.int .i64 k),
           SP.is (.string ⟨(s.take k).toArray⟩),
           SP.is (.slice an len cap),
           SP.is (.string ⟨T.toArray⟩),
           SP.is (.string ⟨(s.take k ++ T).toArray⟩),
           SP.is (.string ⟨s.toArray⟩),
           SP.is (.int .i64 k),
           SP.is (.string ⟨(s.drop k).toArray⟩),
           SP.is (.string ⟨(s.take k ++ (T ++ s.drop k)).toArray⟩),
           SP.is (.slice an len cap),
           SP.is (.string ⟨T.toArray⟩),
           SP.is (.string ⟨raw.toArray⟩),
           SP.is (.slice an len cap),
           SP.is (.string ⟨T.toArray⟩),
           SP.is (.string ⟨(fW6 ++ T).toArray⟩),
           SP.is (.slice an len cap),
           SP.is (.string ⟨T.toArray⟩),
           SP.is (.string ⟨(fbW6 ++ T).toArray⟩),
           SP.is (.string ⟨(fbW6 ++ (T ++ [32, 125])).toArray⟩),
           ⟨fun v W => ∃ q, v = .slice (some ⟨q, 0, none⟩) 8 8 ∧ IsBlk W q (.cells (eight s s2 raw T k).toArray 9), fun _ _ _ ⟨q, e, h⟩ hO => ⟨q, e, h.only hO (by simp)⟩⟩] ?_ ?_
        · simp only [List.take_succ_cons, List.take_zero]
          refine StepsOK.cons ?_ (StepsOK.cons ?_ (StepsOK.cons ?_ (StepsOK.cons ?_ (StepsOK.cons ?_ (StepsOK.cons ?_ (StepsOK.cons ?_ (StepsOK.cons ?_ (StepsOK.cons ?_ (StepsOK.cons ?_ (StepsOK.cons ?_ (StepsOK.cons ?_ (StepsOK.cons ?_ (StepsOK.cons ?_ (StepsOK.cons ?_ (StepsOK.cons ?_ (StepsOK.cons ?_ (StepsOK.cons ?_ (StepsOK.cons ?_ (StepsOK.cons ?_ (StepsOK.cons ?_ (StepsOK.cons ?_ (StepsOK.cons ?_ (StepsOK.cons ?_ (StepsOK.cons ?_ (StepsOK.cons ?_ (StepsOK.cons ?_ StepsOK.nil))))))))))))))))))))))))))
          · intro a W L N hR hold hφ hcl hkp hd K hK
            have e15 := hold 15 (by kernel_rfl)
            clear hold hφ hcl hkp hd
            rw [if_pos (by rfl)]
            go_simp
            exact hK _ _ (Only.refl _ _) rfl
          · intro a W L N hR hold hφ hcl hkp hd K hK
            have e16 := hold 16 (by kernel_rfl)
            clear hold hφ hcl hkp hd
            rw [if_pos (by rfl)]
            go_simp
            exact hK _ _ (Only.refl _ _) rfl
          · intro a W L N hR hold hφ hcl hkp hd K hK
            have e63 := got hφ (hd 1 (by kernel_rfl)) rfl rfl rfl
            have hcv := Hcv.out W (Only.plus hdr hR)
            clear hold hφ hcl hkp hd
            rw [if_pos (by rfl)]
            go_simp
            exact hK _ _ (Only.refl _ _) rfl
          · intro a W L N hR hold hφ hcl hkp hd K hK
            have e15 := hold 15 (by kernel_rfl)
            clear hold hφ hcl hkp hd
            rw [if_pos (by rfl)]
            go_simp
            exact hK _ _ (Only.refl _ _) rfl
          · intro a W L N hR hold hφ hcl hkp hd K hK
            have e17 := hold 17 (by kernel_rfl)
            clear hold hφ hcl hkp hd
            rw [if_pos (by rfl)]
            go_simp
            exact hK _ _ (Only.refl _ _) rfl
          · intro a W L N hR hold hφ hcl hkp hd K hK
            have e65 := got hφ (hd 3 (by kernel_rfl)) rfl rfl rfl
            have e66 := got hφ (hd 4 (by kernel_rfl)) rfl rfl rfl
            have hex := hx1
            clear hold hφ hcl hkp hd
            rw [if_pos (by rfl)]
            go_simp
            exact hK _ _ (Only.refl _ _) rfl
          · intro a W L N hR hold hφ hcl hkp hd K hK
            have e15 := hold 15 (by kernel_rfl)
            clear hold hφ hcl hkp hd
            rw [if_pos (by rfl)]
            go_simp
            exact hK _ _ (Only.refl _ _) rfl
          · intro a W L N hR hold hφ hcl hkp hd K hK
            have e17 := hold 17 (by kernel_rfl)
            clear hold hφ hcl hkp hd
            rw [if_pos (by rfl)]
            go_simp
            exact hK _ _ (Only.refl _ _) rfl
          · intro a W L N hR hold hφ hcl hkp hd K hK
            have e68 := got hφ (hd 6 (by kernel_rfl)) rfl rfl rfl
            have e69 := got hφ (hd 7 (by kernel_rfl)) rfl rfl rfl
            have hex := hx1
            clear hold hφ hcl hkp hd
            rw [if_pos (by rfl)]
            go_simp
            exact hK _ _ (Only.refl _ _) rfl
          · intro a W L N hR hold hφ hcl hkp hd K hK
            have e2 := hold 2 (by kernel_rfl)
            clear hold hφ hcl hkp hd
            rw [if_pos (by rfl)]
            go_simp
            exact hK _ _ (Only.refl _ _) rfl
          · intro a W L N hR hold hφ hcl hkp hd K hK
            have e71 := got hφ (hd 9 (by kernel_rfl)) rfl rfl rfl
            have hW := Only.plus hdr hR
            clear hold hφ hcl hkp hd
            rw [if_pos (by rfl)]
            go_simp
            refine (HTx.out W hW).mono ?_
            rintro e w' ⟨rfl, hO'⟩
            exact hK _ _ hO' rfl
          · intro a W L N hR hold hφ hcl hkp hd K hK
            have e70 := got hφ (hd 8 (by kernel_rfl)) rfl rfl rfl
            have e72 := got hφ (hd 10 (by kernel_rfl)) rfl rfl rfl
            have had := ha1 W
            clear hold hφ hcl hkp hd
            rw [if_pos (by rfl)]
            go_simp
            exact hK _ _ (Only.refl _ _) rfl
          · intro a W L N hR hold hφ hcl hkp hd K hK
            have e15 := hold 15 (by kernel_rfl)
            clear hold hφ hcl hkp hd
            rw [if_pos (by rfl)]
            go_simp
            exact hK _ _ (Only.refl _ _) rfl
          · intro a W L N hR hold hφ hcl hkp hd K hK
            have e17 := hold 17 (by kernel_rfl)
            clear hold hφ hcl hkp hd
            rw [if_pos (by rfl)]
            go_simp
            exact hK _ _ (Only.refl _ _) rfl
          · intro a W L N hR hold hφ hcl hkp hd K hK
            have e74 := got hφ (hd 12 (by kernel_rfl)) rfl rfl rfl
            have e75 := got hφ (hd 13 (by kernel_rfl)) rfl rfl rfl
            have hex := hx2
            clear hold hφ hcl hkp hd
            rw [if_pos (by rfl)]
            go_simp
            exact hK _ _ (Only.refl _ _) rfl
          · intro a W L N hR hold hφ hcl hkp hd K hK
            have e73 := got hφ (hd 11 (by kernel_rfl)) rfl rfl rfl
            have e76 := got hφ (hd 14 (by kernel_rfl)) rfl rfl rfl
            have had := ha2 W
            clear hold hφ hcl hkp hd
            rw [if_pos (by rfl)]
            go_simp
            exact hK _ _ (Only.refl _ _) rfl
          · intro a W L N hR hold hφ hcl hkp hd K hK
            have e2 := hold 2 (by kernel_rfl)
            clear hold hφ hcl hkp hd
            rw [if_pos (by rfl)]
            go_simp
            exact hK _ _ (Only.refl _ _) rfl
          · intro a W L N hR hold hφ hcl hkp hd K hK
            have e78 := got hφ (hd 16 (by kernel_rfl)) rfl rfl rfl
            have hW := Only.plus hdr hR
            clear hold hφ hcl hkp hd
            rw [if_pos (by rfl)]
            go_simp
            refine (HTx.out W hW).mono ?_
            rintro e w' ⟨rfl, hO'⟩
            exact hK _ _ hO' rfl
          · intro a W L N hR hold hφ hcl hkp hd K hK
            have e6 := hold 6 (by kernel_rfl)
            clear hold hφ hcl hkp hd
            rw [if_pos (by rfl)]
            go_simp
            exact hK _ _ (Only.refl _ _) rfl
          · intro a W L N hR hold hφ hcl hkp hd K hK
            have e2 := hold 2 (by kernel_rfl)
            clear hold hφ hcl hkp hd
            rw [if_pos (by rfl)]
            go_simp
            exact hK _ _ (Only.refl _ _) rfl
          · intro a W L N hR hold hφ hcl hkp hd K hK
            have e81 := got hφ (hd 19 (by kernel_rfl)) rfl rfl rfl
            have hW := Only.plus hdr hR
            clear hold hφ hcl hkp hd
            rw [if_pos (by rfl)]
            go_simp
            refine (HTx.out W hW).mono ?_
            rintro e w' ⟨rfl, hO'⟩
            exact hK _ _ hO' rfl
          · intro a W L N hR hold hφ hcl hkp hd K hK
            have e82 := got hφ (hd 20 (by kernel_rfl)) rfl rfl rfl
            have had := ha3 W
            clear hold hφ hcl hkp hd
            rw [if_pos (by rfl)]
            go_simp
            exact hK _ _ (Only.refl _ _) rfl
          · intro a W L N hR hold hφ hcl hkp hd K hK
            have e2 := hold 2 (by kernel_rfl)
            clear hold hφ hcl hkp hd
            rw [if_pos (by rfl)]
            go_simp
            exact hK _ _ (Only.refl _ _) rfl
          · intro a W L N hR hold hφ hcl hkp hd K hK
            have e84 := got hφ (hd 22 (by kernel_rfl)) rfl rfl rfl
            have hW := Only.plus hdr hR
            clear hold hφ hcl hkp hd
            rw [if_pos (by rfl)]
            go_simp
            refine (HTx.out W hW).mono ?_
            rintro e w' ⟨rfl, hO'⟩
            exact hK _ _ hO' rfl
          · intro a W L N hR hold hφ hcl hkp hd K hK
            have e85 := got hφ (hd 23 (by kernel_rfl)) rfl rfl rfl
            have had := ha4 W
            clear hold hφ hcl hkp hd
            rw [if_pos (by rfl)]
            go_simp
            exact hK _ _ (Only.refl _ _) rfl
          · intro a W L N hR hold hφ hcl hkp hd K hK
            have e86 := got hφ (hd 24 (by kernel_rfl)) rfl rfl rfl
            have had := ha5 W
            clear hold hφ hcl hkp hd
            rw [if_pos (by rfl)]
            go_simp
            exact hK _ _ (Only.refl _ _) rfl
          · intro a W L N hR hold hφ hcl hkp hd K hK
            have e62 := got hφ (hd 0 (by kernel_rfl)) rfl rfl rfl
            have e64 := got hφ (hd 2 (by kernel_rfl)) rfl rfl rfl
            have e67 := got hφ (hd 5 (by kernel_rfl)) rfl rfl rfl
            have e77 := got hφ (hd 15 (by kernel_rfl)) rfl rfl rfl
            have e79 := got hφ (hd 17 (by kernel_rfl)) rfl rfl rfl
            have e80 := got hφ (hd 18 (by kernel_rfl)) rfl rfl rfl
            have e83 := got hφ (hd 21 (by kernel_rfl)) rfl rfl rfl
            have e87 := got hφ (hd 25 (by kernel_rfl)) rfl rfl rfl
            clear hold hφ hcl hkp hd
            rw [if_pos (by rfl)]
            go_simp
            exact hK _ _ ((Only.refl _ _).alloc _) ⟨_, rfl, IsBlk.made W _⟩
        · intro us W hO' hus
          obtain ⟨q, p26, hbq⟩ := hus 26 _ 88 (by omega) rfl rfl
          clear hus
          simp only [List.take_succ_cons, List.take_zero, List.drop_succ_cons, List.drop_zero, fillAct, Act.put, List.setIfInBounds_toArray, List.set_cons_zero, List.set_cons_succ, Nat.reduceAdd, p26]
          clear p26
          have HOW := Lib.hid (HO6.out.plus (Only.plus hdr hO'))
          have Hbq := Lib.hid hbq
          have hel : (eightT s s2 raw T k).length = 8 := rfl
          clear hO' hdr hbq ha1 ha2 ha3 ha4 ha5 hx1 hx2 Hcv HTx hTl hsl
          unfold eight at Hbq
          generalize eightT s s2 raw T k = TT at *
          have Hel := Lib.hid hel
          clear hel
          go_wp2_with fail
          go_loopw [19] (fun iv wr => ∃ j : Nat, iv = .int .i64 j ∧ j ≤ 8 ∧ Only [] W wr) (fun iv _ => 8 - (intOf iv).toNat)
          case atStart => exact ⟨0, rfl, by omega, Only.refl _ _⟩
          case round =>
            obtain ⟨j, rfl, hj, hO⟩ := hrel
            have HO := Lib.hid hO
            clear hO
            by_cases hlt : j < 8
            · have hlti : (j : Int) < 8 := by omega
              have hj0 : (0 : Int) ≤ (j : Int) := by omega
              have hlT : j < TT.length := by have := Hel.out; omega
              have hld := table_cell TT (Hbq.out.only HO.out (by simp)) j hlT
              have e0 : TT.getD j [] = TT[j] := by simp [hlT]
              rw [e0] at hld
              have HgD : Hid (TT.getD j [] = TT[j]) := Lib.hid e0
              have hxl : TT[j].length ≤ 100000 := HEl.out _ (List.getElem_mem hlT)
              have hql := (Hbq.out.only HO.out (by simp)).lt
              generalize TT[j] = x at *
              clear e0 hlT
              go_wp2_with fail
              refine (pparse_any wr x hxl).mono ?_
              have HD := Lib.hid (fun W => dparse_any W x hxl)
              have hsz := parseM_size x
              generalize parseM x = M at *
              obtain ⟨P0, n0, e0⟩ := M
              simp only at hsz ⊢
              rintro e w11 ⟨pv, pl, pf, rfl, hP, hO11⟩
              simp only at hP ⊢
              have HP := Lib.hid hP
              obtain ⟨⟨av, cv, rfl, -⟩, ⟨al, cl, rfl, -⟩, ⟨af, cf, rfl, -⟩⟩ := hP
              have hOa := (Only.refl [] w11).alloc (.cells #[.slice av P0.vars.length cv, .slice al P0.locks.length cl, .slice af P0.funcs.length cf] 30)
              have hbp := IsBlk.made w11 (.cells #[.slice av P0.vars.length cv, .slice al P0.locks.length cl, .slice af P0.funcs.length cf] 30)
              have HP12 := Lib.hid (HP.out.more hOa)
              have Hbp := Lib.hid hbp
              have HO12 := Lib.hid ((HO.out.plus hO11).plus hOa)
              clear hO11 hOa hbp HP hld hql
              go_upto_region 14 with fail
              generalize hW12 : w11.alloc (.cells #[.slice av P0.vars.length cv, .slice al P0.locks.length cl, .slice af P0.funcs.length cf] 30) = w12 at *
              clear hW12
              generalize w11.heap.size = q1 at *
              have hldt := table_cell TT (Hbq.out.only HO12.out (by simp)) j (by have := Hel.out; omega)
              rw [HgD.out] at hldt
              have hql := (Hbq.out.only HO12.out (by simp)).lt
              go_wp2_with fail
              refine (HD.out w12).mono ?_
              rintro e w13 ⟨pv, pl, pf, rfl, hQ, hO13⟩
              simp only at hQ ⊢
              have HQ := Lib.hid hQ
              obtain ⟨⟨bv', dv, rfl, -⟩, ⟨bl, dl, rfl, -⟩, ⟨bf, df, rfl, -⟩⟩ := hQ
              have hOa := (Only.refl [] w13).alloc (.cells #[.slice bv' P0.vars.length dv, .slice bl P0.locks.length dl, .slice bf P0.funcs.length df] 30)
              have hbq2 := IsBlk.made w13 (.cells #[.slice bv' P0.vars.length dv, .slice bl P0.locks.length dl, .slice bf P0.funcs.length df] 30)
              have HQ14 := Lib.hid (HQ.out.more hOa)
              have Hbq2 := Lib.hid hbq2
              have HP14 := Lib.hid (HP12.out.more (hO13.plus hOa))
              have Hbp14 := Lib.hid (Hbp.out.only (hO13.plus hOa) (by simp))
              have HO14 := Lib.hid ((HO12.out.plus hO13).plus hOa)
              clear hO13 hOa hbq2 HQ hldt hql HP12 Hbp HO12 HD
              go_upto_region 15 with fail
              generalize hW14 : w13.alloc (.cells #[.slice bv' P0.vars.length dv, .slice bl P0.locks.length dl, .slice bf P0.funcs.length df] 30) = w14 at *
              clear hW14
              generalize w13.heap.size = q3 at *
              have hee : ((e0 : Int) == (e0 : Int)) = true := beq_self_eq_true _
              have hnn : ((n0 : Int) == (n0 : Int)) = true := beq_self_eq_true _
              have hsz2 : P0.vars.length + P0.locks.length + (placesF P0.funcs).length ≤ 1000000 := by unfold sizeP at hsz; omega
              have hfc : ∀ f ∈ P0.funcs, f.body.cnt ≤ 100000 := fun f hf => by have := funcs_cnt _ f hf; unfold sizeP at hsz; omega
              have hfl := placesF_ge P0.funcs
              have hsp : sameP P0 P0 = true := by rw [sameP_iff]; simp
              have HS := fun W (hW : Only [] w14 W) => rsame_any W _ _ _ _ _ _ P0 P0 (HP14.out.more hW) (HQ14.out.more hW) hfc hfc ⟨by omega, by omega, by omega⟩
              rw [hsp] at HS
              have HSa := Lib.hid HS
              have HSb := Lib.hid (fun W (hW : Only [] w14 W) => lplaces_any W _ _ _ _ _ _ P0 (HP14.out.more hW) (HQ14.out.more hW) hsz2)
              have c0 := Hbp14.out.cell 0
              have c1 := Hbp14.out.cell 1
              have c2 := Hbp14.out.cell 2
              have cl0 := Hbp14.out.lt
              have d0 := Hbq2.out.cell 0
              have d1 := Hbq2.out.cell 1
              have d2 := Hbq2.out.cell 2
              have dl0 := Hbq2.out.lt
              clear HS hsp hfc hfl hsz2 hsz
              go_wp2_with fail
              refine (HSa.out w14 (Only.refl _ _)).mono ?_
              rintro e w15 ⟨rfl, hO15⟩
              have HO15 := Lib.hid hO15
              clear c0 c1 c2 cl0 d0 d1 d2 dl0
              have c0 := (Hbp14.out.only hO15 (by simp)).cell 0
              have c1 := (Hbp14.out.only hO15 (by simp)).cell 1
              have c2 := (Hbp14.out.only hO15 (by simp)).cell 2
              have cl0 := (Hbp14.out.only hO15 (by simp)).lt
              have d0 := (Hbq2.out.only hO15 (by simp)).cell 0
              have d1 := (Hbq2.out.only hO15 (by simp)).cell 1
              have d2 := (Hbq2.out.only hO15 (by simp)).cell 2
              have dl0 := (Hbq2.out.only hO15 (by simp)).lt
              clear hO15
              go_wp2_with fail
              refine (HSb.out w15 HO15.out).mono ?_
              rintro e w16 ⟨rfl, hO16⟩
              have HO16 := Lib.hid ((HO14.out.plus HO15.out).plus hO16)
              clear hO16 c0 c1 c2 cl0 d0 d1 d2 dl0
              go_wp2
              go_roundw
              case rel => exact ⟨j + 1, by go_num, hlt, HO16.out⟩
              case measure => simp [intOf]; omega
            · have hlti : ¬ (j : Int) < 8 := by omega
              go_wp2
              go_ret
              exact ⟨rfl, HOW.out.plus HO.out⟩
      · have hr3i : (300 : Int) < (raw.length : Int) := by omega
        go_wp2
        go_ret
        exact ⟨rfl, HO2.out⟩
    · rw [show decide (sizeM b 0 ≤ 40) = false from by simp [hfb]]
      clear hfb
      go_wp2
      go_ret
      exact ⟨rfl, HO2.out⟩
  · rw [show decide (sizeM a 0 ≤ 40) = false from by simp [hfa]]
    clear hfa
    go_wp2
    go_ret
    exact ⟨rfl, HO1.out⟩

theorem preads_row (a0 : Option Addr) (len0 cap0 : Nat) (l0 : RawM) (a1 : Option Addr) (len1 cap1 : Nat) (l1 : RawM) (a2 : Option Addr) (len2 cap2 : Nat) (l2 : List Int) (at0 : Int) (by0 : Int) (cut0 : Int) (raw : List UInt8) (w : World)
    (h0 : RawAt w (.slice a0 len0 cap0) l0) (h1 : RawAt w (.slice a1 len1 cap1) l1) (h2 : IntsArg w a2 len2 l2) (hraw : raw.length ≤ maxLen) :
    Calls Try.prog 3 #[.slice a0 len0 cap0, .slice a1 len1 cap1, .slice a2 len2 cap2, .int .i64 at0, .int .u8 by0, .int .i64 cut0, encStr raw] w fun e w' => e = .returned (.bool true) ∧ Only [] w w' := preads_walk _ _ l0 l1 a2 len2 cap2 l2 at0 by0 cut0 raw w h0 h1 h2 hraw

end Go.Proofs.Ytonpfmhdefhhmaa
