/-
  The law's stands: does each statement begin where its word stands?
-/
import Derived.Test.YtonpfmhdefhhmaaPbC
import Derived.Test.YtonpfmhdefhhmaaStab
namespace Go.Proofs.Ytonpfmhdefhhmaa
set_option maxRecDepth 100000
set_option linter.unusedVariables false
open Go.RowKit Go.Sort

theorem callM_len (k : Nat) (n : List UInt8) (h1 : 1 ≤ k) (h8 : k ≤ 8) : 0 < (callM k n).length := by
  have : ∀ i : Fin 9, 1 ≤ i.1 → 0 < (verbM i.1).length := by decide
  have h := this ⟨k, by omega⟩ h1
  simp only at h
  unfold callM
  split
  · exact h
  · simp; omega
theorem reads_cut {s : List UInt8} {p : Nat} {w : List UInt8} (h : Reads s p w) : (⟨s.toArray⟩ : ByteArray).extract p (p + w.length) = ⟨w.toArray⟩ := by
  rw [ByteArray.extract_mk]
  rw [show p + w.length - p = w.length by omega, h.2]

set_option maxHeartbeats 16000000 in
theorem stands_walk (s : List UInt8) (hsl : s.length ≤ 100000) (N : Nat) (ih : ∀ b : Blk, b.cnt < N → ∀ (w : World) (v : Value) (fp : List Nat), BlkAt w v b fp → standsB s 0 b →
      Calls Try.prog 27 #[.string ⟨s.toArray⟩, v] w fun e w' => e = .returned (.bool true) ∧ Only [] w w')
    (b : Blk) (hN : b.cnt ≤ N) (hN2 : N ≤ 100000) (w : World) (v : Value) (fp : List Nat) (h : BlkAt w v b fp) (hst : standsB s 0 b) :
    Calls Try.prog 27 #[.string ⟨s.toArray⟩, v] w fun e w' => e = .returned (.bool true) ∧ Only [] w w' := by
  have Ih := Lib.hid ih
  clear ih
  have h0 : ∃ a c xs fq, v = .slice a b.len c ∧ EncB w b xs fq ∧ (0 < b.len → ∃ g, a = some ⟨g, 0, none⟩ ∧ g < w.heap.size ∧ w.rangeAt g 0 xs) := by
    rcases h with ⟨rfl, h1, rfl⟩ | ⟨g, c, fq, xs, rfl, hc, hn, rfl, ⟨cs, t, hg⟩, hr, he⟩
    · have := Blk.len_zero b h1
      subst this
      exact ⟨none, 0, [], [], rfl, ⟨rfl, rfl⟩, fun h => by simp [Blk.len] at h⟩
    · exact ⟨_, c, xs, fq, rfl, he, fun _ => ⟨g, rfl, hg.lt, hr⟩⟩
  obtain ⟨a, c, xs, fq, rfl, he, hr⟩ := h0
  have He := Lib.hid (And.intro he hr)
  have Hst := Lib.hid hst
  have hbl := b.len_cnt
  clear he hr h hst
  go_enter Try.func27, Try.ntmps27
  go_wp2_with fail
  go_loopg [5] 1000000 (fun gk iv wr => ∃ (j lo : Nat) (rs : Blk) (xr : List Value) (fr : List Nat), iv = .int .i64 j ∧ j + rs.len = b.len ∧ rs.len ≤ gk ∧ rs.cnt ≤ N ∧ Hid (standsB s lo rs) ∧ EncB w rs xr fr ∧
      (0 < rs.len → ∃ g, a = some ⟨g, 0, none⟩ ∧ g < w.heap.size ∧ w.rangeAt g (j * 5) xr ∧ (0 < j → ∃ pp : Nat, w.cell? ⟨g, (j - 1) * 5 + 1, none⟩ = some (.int .i64 pp) ∧ pp + 1 = lo)) ∧ Only [] w wr)
  case atStart =>
    refine ⟨0, 0, b, xs, fq, rfl, by omega, by omega, hN, Hst, He.out.1, fun h => ?_, Only.refl _ _⟩
    obtain ⟨g, h1, h2, h3⟩ := He.out.2 h
    exact ⟨g, h1, h2, by rw [Nat.zero_mul]; exact h3, fun h => absurd h (by omega)⟩
  case round =>
    obtain ⟨j, lo, rs, xr, fr, rfl, hjl, hgk, hrc, hst, hE, hra, hO⟩ := hrel
    have HO := Lib.hid hO
    clear hO
    cases rs with
    | nil =>
      have hji : ¬ (j : Int) < (b.len : Int) := by simp only [Blk.len] at hjl; omega
      go_wp2_with fail
      go_ret
      exact ⟨rfl, HO.out⟩
    | cons kd pl nm A B rr =>
      have hji : (j : Int) < (b.len : Int) := by simp only [Blk.len] at hjl; omega
      obtain ⟨va, vb, fa, fb, fr', xr', rfl, rfl, hA, hB, hE'⟩ := hE
      obtain ⟨g, hag, hg, hrx, hpv⟩ := hra (by simp [Blk.len])
      obtain ⟨⟨k1, k8⟩, hlo, hrd, hsA, hsB, hsr⟩ := hst.out
      have HA' := Lib.hid (show BlkAt w va A fa from hA)
      have HB' := Lib.hid (show BlkAt w vb B fb from hB)
      obtain ⟨aa, ca, rfl, -⟩ := RowE.slice hA
      obtain ⟨ab, cb, rfl, -⟩ := RowE.slice hB
      have hcc : A.cnt < N ∧ B.cnt < N ∧ rr.cnt ≤ N := by simp only [Blk.cnt] at hrc; omega
      have hcl : ∀ W, Only [] wr W → W.cell? ⟨g, j * 5, none⟩ = some (.int .i64 kd) ∧ W.cell? ⟨g, j * 5 + 1, none⟩ = some (.int .i64 pl) ∧ W.cell? ⟨g, j * 5 + 2, none⟩ = some (.string ⟨nm.toArray⟩) ∧ W.cell? ⟨g, j * 5 + 3, none⟩ = some (.slice aa A.len ca) ∧ W.cell? ⟨g, j * 5 + 4, none⟩ = some (.slice ab B.len cb) ∧ g < W.heap.size := fun W hW =>
        ⟨((HO.out.plus hW).cell (p := ⟨g, j * 5, none⟩) hg (by simp)).trans (hrx 0 _ rfl), ((HO.out.plus hW).cell (p := ⟨g, j * 5 + 1, none⟩) hg (by simp)).trans (hrx 1 _ rfl), ((HO.out.plus hW).cell (p := ⟨g, j * 5 + 2, none⟩) hg (by simp)).trans (hrx 2 _ rfl),
          ((HO.out.plus hW).cell (p := ⟨g, j * 5 + 3, none⟩) hg (by simp)).trans (hrx 3 _ rfl), ((HO.out.plus hW).cell (p := ⟨g, j * 5 + 4, none⟩) hg (by simp)).trans (hrx 4 _ rfl), Nat.lt_of_lt_of_le hg (HO.out.plus hW).size⟩
      have hrx1 := Lib.hid (hrx 1 _ rfl)
      have hrx2 := Lib.hid (fun i u (hu : xr'[i]? = some u) => hrx (i + 5) u hu)
      have HE := Lib.hid hE'
      have Hcl := Lib.hid hcl
      have Hsr := Lib.hid hsr
      have Hrd := Lib.hid hrd
      have Hpv := Lib.hid hpv
      have HRA : Hid (∀ W, Only [] wr W → Calls Try.prog 27 #[.string ⟨s.toArray⟩, .slice aa A.len ca] W fun e w' => e = .returned (.bool true) ∧ Only [] W w') := Lib.hid (fun W hW => Ih.out A hcc.1 W _ fa (HA'.out.more (HO.out.plus hW)) hsA)
      have HRB : Hid (∀ W, Only [] wr W → Calls Try.prog 27 #[.string ⟨s.toArray⟩, .slice ab B.len cb] W fun e w' => e = .returned (.bool true) ∧ Only [] W w') := Lib.hid (fun W hW => Ih.out B hcc.2.1 W _ fb (HB'.out.more (HO.out.plus hW)) hsB)
      have hpl := hrd.1
      have hcp := callM_len kd nm k1 k8
      clear hrx hE' hra hcl hst hA hB hsr hrd hpv hsA hsB
      rw [hag]
      go_upto_block 1 with fail
      go_cut [] (fun wx => Only [] wr wx)
      case first =>
        obtain ⟨c0, c1, c2, c3, c4, c5⟩ := Hcl.out wr (Only.refl _ _)
        have hk1i : ¬ (kd : Int) < 1 := by omega
        have hk8i : ¬ (8 : Int) < (kd : Int) := by omega
        go_wp2_with fail
        refine (rverb_any wr kd k8).mono ?_
        rintro e w1 ⟨rfl, hO1⟩
        have HO1 := Lib.hid hO1
        clear c0 c1 c2 c3 c4 c5
        obtain ⟨c0, c1, c2, c3, c4, c5⟩ := Hcl.out w1 hO1
        clear hO1
        unfold encStr
        go_upto_region 7 with fail
        go_cut [38] (fun s38 wx => s38 = .bool (decide (nm ≠ [])) ∧ w1 = wx)
        case first =>
          by_cases hn : nm = []
          · subst hn
            go_wp2_with fail
            go_meet
            exact ⟨rfl, rfl⟩
          · have hnb : ((⟨nm.toArray⟩ : ByteArray) == ⟨#[]⟩) = false := by
              cases nm with
              | nil => exact absurd rfl hn
              | cons c r => rfl
            go_wp2_with fail
            go_meet
            exact ⟨by simp [hn], rfl⟩
        case rest =>
        obtain ⟨rfl, rfl⟩ := hcut
        go_upto_if 38 with fail
        go_cut [6] (fun s6 wx => s6 = .string ⟨(callM kd nm).toArray⟩ ∧ w1 = wx)
        case first =>
          have hvl := verb_len kd k1 k8
          have hcl2 : (callM kd nm).length ≤ 100000 := by omega
          by_cases hn : nm = []
          · have hde : decide (nm ≠ []) = false := by simp [hn]
            rw [hde]
            have Hcm : Hid (callM kd nm = verbM kd) := Lib.hid (by unfold callM; rw [if_pos hn])
            clear hn hde
            go_wp2_with fail
            go_meet
            exact ⟨by rw [Hcm.out], rfl⟩
          · have hde : decide (nm ≠ []) = true := by simp [hn]
            rw [hde]
            have hcm : callM kd nm = verbM kd ++ [32] ++ nm := by unfold callM; rw [if_neg hn]; simp
            have hz := congrArg List.length hcm
            simp only [List.length_append, List.length_cons, List.length_nil] at hz
            have Hcm := Lib.hid hcm
            clear hn hde hcm
            generalize verbM kd = vk at *
            have hz1 : (vk.length : Int) + 1 ≤ 9223372036854775807 := by omega
            go_wp2_with fail
            go_meet
            exact ⟨by rw [Hcm.out]; exact congrArg Value.string (ba3 vk [32] nm), rfl⟩
        case rest =>
        obtain ⟨rfl, rfl⟩ := hcut
        have hrd := Hrd.out
        have hex := reads_cut hrd
        have Hex := Lib.hid hex
        generalize callM kd nm = cw at *
        clear hrd hex
        have hw1 : IntKind.i64.wrap ((pl : Int) + (cw.length : Int)) = (pl : Int) + (cw.length : Int) := Go.IntWalk.i64_in _ (by omega)
        have hp0 : ¬ (pl : Int) < 0 := by omega
        have hp1 : (0 : Int) ≤ (pl : Int) := by omega
        have hp2 : (pl : Int) ≤ (pl : Int) + (cw.length : Int) := by omega
        have hp3 : (pl : Int) + (cw.length : Int) ≤ (s.length : Int) := by omega
        have hp4 : ¬ (s.length : Int) < (pl : Int) + (cw.length : Int) := by omega
        have hex3 : (⟨s.toArray⟩ : ByteArray).extract pl ((pl : Int) + (cw.length : Int)).toNat = ⟨cw.toArray⟩ := by
          rw [show ((pl : Int) + (cw.length : Int)).toNat = pl + cw.length by omega]
          exact Hex.out
        have hbq : (((⟨s.toArray⟩ : ByteArray).extract pl ((pl : Int) + (cw.length : Int)).toNat).toList == cw) = true := by
          rw [hex3, ByteArray.toList_mk]
          exact beq_self_eq_true _
        have hcq : (cw == cw) = true := beq_self_eq_true _
        have hj0 : (0 : Int) ≤ (j : Int) := by omega
        by_cases hj : j = 0
        · have hji0 : ¬ (0 : Int) < (j : Int) := by omega
          have hjn : ¬ 0 < j := by omega
          have hjd : decide ((0 : Int) < (j : Int)) = false := by simp; omega
          have hjd2 : decide (0 < j) = false := by simp; omega
          clear hj
          go_upto_region 9 with fail
          simp only [List.append_eq, List.cons_append, List.nil_append]
          refine wp_region_stabL (P := Try.prog) 76 (by kernel_rfl) (by kernel_rfl) (Only []) (Only.refl _ _) (fun _ _ _ h k => h.then k [] (by simp) (by simp))
            [SP.is (.slice (some ⟨g, 0, none⟩) b.len c),
             SP.is (.int .i64 j),
             SP.is (.pointer (some ⟨g, j * 5, none⟩)),
             SP.is (.pointer (some ⟨g, j * 5 + 1, none⟩)),
             SP.is (.int .i64 pl),
             SP.is (.bool false),
             SP.is (.bool false),
             SP.is (.slice (some ⟨g, 0, none⟩) b.len c),
             SP.is (.int .i64 j),
             SP.is (.pointer (some ⟨g, j * 5, none⟩)),
             SP.is (.pointer (some ⟨g, j * 5 + 1, none⟩)),
             SP.is (.int .i64 pl),
             SP.is (.string ⟨cw.toArray⟩),
             SP.is (.int .i64 cw.length),
             SP.is (.int .i64 ((pl : Int) + (cw.length : Int))),
             SP.is (.string ⟨s.toArray⟩),
             SP.is (.int .i64 s.length),
             SP.is (.bool false),
             SP.is (.bool false),
             SP.is (.bool false),
             SP.is (.string ⟨s.toArray⟩),
             SP.is (.slice (some ⟨g, 0, none⟩) b.len c),
             SP.is (.int .i64 j),
             SP.is (.pointer (some ⟨g, j * 5, none⟩)),
             SP.is (.pointer (some ⟨g, j * 5 + 1, none⟩)),
             SP.is (.int .i64 pl),
             SP.is (.slice (some ⟨g, 0, none⟩) b.len c),
             SP.is (.int .i64 j),
             SP.is (.pointer (some ⟨g, j * 5, none⟩)),
             SP.is (.pointer (some ⟨g, j * 5 + 1, none⟩)),
             SP.is (.int .i64 pl),
             SP.is (.string ⟨cw.toArray⟩),
             SP.is (.int .i64 cw.length),
             SP.is (.int .i64 ((pl : Int) + (cw.length : Int))),
             SP.is (.string ⟨cw.toArray⟩),
             SP.is (.string ⟨cw.toArray⟩),
             SP.is (.bool false),
             SP.is (.bool false),
             SP.is (.bool false),
             SP.is (.string ⟨s.toArray⟩),
             SP.is (.slice (some ⟨g, 0, none⟩) b.len c),
             SP.is (.int .i64 j),
             SP.is (.pointer (some ⟨g, j * 5, none⟩)),
             SP.is (.pointer (some ⟨g, j * 5 + 3, none⟩)),
             SP.is (.slice aa A.len ca),
             SP.is (.bool true),
             SP.is (.bool false),
             SP.is (.bool false),
             SP.is (.bool false),
             SP.is (.string ⟨s.toArray⟩),
             SP.is (.slice (some ⟨g, 0, none⟩) b.len c),
             SP.is (.int .i64 j),
             SP.is (.pointer (some ⟨g, j * 5, none⟩)),
             SP.is (.pointer (some ⟨g, j * 5 + 4, none⟩)),
             SP.is (.slice ab B.len cb),
             SP.is (.bool true),
             SP.is (.bool false),
             SP.is (.bool false),
             SP.is (.bool false),
             SP.is (.int .i64 j),
             SP.is (.bool false),
             SP.is (.bool false),
             SP.is (undef),
             SP.is (undef),
             SP.is (undef),
             SP.is (undef),
             SP.is (undef),
             SP.is (undef),
             SP.is (undef),
             SP.is (undef),
             SP.is (undef),
             SP.is (undef),
             SP.is (undef),
             SP.is (undef),
             SP.is (.bool false),
             SP.is (.bool false)] ?_ ?_
          · simp only [List.take_succ_cons, List.take_zero]
            refine StepsOK.cons ?_ (StepsOK.cons ?_ (StepsOK.cons ?_ (StepsOK.cons ?_ (StepsOK.cons ?_ (StepsOK.cons ?_ (StepsOK.cons ?_ (StepsOK.cons ?_ (StepsOK.cons ?_ (StepsOK.cons ?_ (StepsOK.cons ?_ (StepsOK.cons ?_ (StepsOK.cons ?_ (StepsOK.cons ?_ (StepsOK.cons ?_ (StepsOK.cons ?_ (StepsOK.cons ?_ (StepsOK.cons ?_ (StepsOK.cons ?_ (StepsOK.cons ?_ (StepsOK.cons ?_ (StepsOK.cons ?_ (StepsOK.cons ?_ (StepsOK.cons ?_ (StepsOK.cons ?_ (StepsOK.cons ?_ (StepsOK.cons ?_ (StepsOK.cons ?_ (StepsOK.cons ?_ (StepsOK.cons ?_ (StepsOK.cons ?_ (StepsOK.cons ?_ (StepsOK.cons ?_ (StepsOK.cons ?_ (StepsOK.cons ?_ (StepsOK.cons ?_ (StepsOK.cons ?_ (StepsOK.cons ?_ (StepsOK.cons ?_ (StepsOK.cons ?_ (StepsOK.cons ?_ (StepsOK.cons ?_ (StepsOK.cons ?_ (StepsOK.cons ?_ (StepsOK.cons ?_ (StepsOK.cons ?_ (StepsOK.cons ?_ (StepsOK.cons ?_ (StepsOK.cons ?_ (StepsOK.cons ?_ (StepsOK.cons ?_ (StepsOK.cons ?_ (StepsOK.cons ?_ (StepsOK.cons ?_ (StepsOK.cons ?_ (StepsOK.cons ?_ (StepsOK.cons ?_ (StepsOK.cons ?_ (StepsOK.cons ?_ (StepsOK.cons ?_ (StepsOK.cons ?_ (StepsOK.cons ?_ (StepsOK.cons ?_ (StepsOK.cons ?_ (StepsOK.cons ?_ (StepsOK.cons ?_ (StepsOK.cons ?_ (StepsOK.cons ?_ (StepsOK.cons ?_ (StepsOK.cons ?_ (StepsOK.cons ?_ (StepsOK.cons ?_ (StepsOK.cons ?_ (StepsOK.cons ?_ (StepsOK.cons ?_ (StepsOK.cons ?_ StepsOK.nil)))))))))))))))))))))))))))))))))))))))))))))))))))))))))))))))))))))))))))
            · intro a W L N hR hold hφ hcl hkp hd K hK
              have e1 := hold 1 (by kernel_rfl)
              clear hold hφ hcl hkp hd
              rw [if_pos (by rfl)]
              go_simp
              exact hK _ _ (Only.refl _ _) rfl
            · intro a W L N hR hold hφ hcl hkp hd K hK
              have e5 := hold 5 (by kernel_rfl)
              clear hold hφ hcl hkp hd
              rw [if_pos (by rfl)]
              go_simp
              exact hK _ _ (Only.refl _ _) rfl
            · intro a W L N hR hold hφ hcl hkp hd K hK
              have e47 := got hφ (hd 0 (by kernel_rfl)) rfl rfl rfl
              have e48 := got hφ (hd 1 (by kernel_rfl)) rfl rfl rfl
              clear hold hφ hcl hkp hd
              rw [if_pos (by rfl)]
              go_simp
              exact hK _ _ (Only.refl _ _) rfl
            · intro a W L N hR hold hφ hcl hkp hd K hK
              have e49 := got hφ (hd 2 (by kernel_rfl)) rfl rfl rfl
              clear hold hφ hcl hkp hd
              rw [if_pos (by rfl)]
              go_simp
              exact hK _ _ (Only.refl _ _) rfl
            · intro a W L N hR hold hφ hcl hkp hd K hK
              have e50 := got hφ (hd 3 (by kernel_rfl)) rfl rfl rfl
              obtain ⟨l0, l1, l2, l3, l4, l5⟩ := Hcl.out W (Only.plus HO1.out.drew hR)
              clear hold hφ hcl hkp hd
              rw [if_pos (by rfl)]
              go_simp
              exact hK _ _ (Only.refl _ _) rfl
            · intro a W L N hR hold hφ hcl hkp hd K hK
              have e51 := got hφ (hd 4 (by kernel_rfl)) rfl rfl rfl
              clear hold hφ hcl hkp hd
              rw [if_pos (by rfl)]
              go_simp
              exact hK _ _ (Only.refl _ _) rfl
            · intro a W L N hR hold hφ hcl hkp hd K hK
              have e52 := got hφ (hd 5 (by kernel_rfl)) rfl rfl rfl
              clear hold hφ hcl hkp hd
              rw [if_pos (by rfl)]
              go_simp
              exact hK _ _ (Only.refl _ _) rfl
            · intro a W L N hR hold hφ hcl hkp hd K hK
              have e1 := hold 1 (by kernel_rfl)
              have e53 := got hφ (hd 6 (by kernel_rfl)) rfl rfl rfl
              clear hold hφ hcl hkp hd
              rw [if_pos (by simp [Region.wanted, yielded, e53])]
              go_simp
              exact hK _ _ (Only.refl _ _) rfl
            · intro a W L N hR hold hφ hcl hkp hd K hK
              have e5 := hold 5 (by kernel_rfl)
              have e53 := got hφ (hd 6 (by kernel_rfl)) rfl rfl rfl
              clear hold hφ hcl hkp hd
              rw [if_pos (by simp [Region.wanted, yielded, e53])]
              go_simp
              exact hK _ _ (Only.refl _ _) rfl
            · intro a W L N hR hold hφ hcl hkp hd K hK
              have e54 := got hφ (hd 7 (by kernel_rfl)) rfl rfl rfl
              have e55 := got hφ (hd 8 (by kernel_rfl)) rfl rfl rfl
              have e53 := got hφ (hd 6 (by kernel_rfl)) rfl rfl rfl
              clear hold hφ hcl hkp hd
              rw [if_pos (by simp [Region.wanted, yielded, e53])]
              go_simp
              exact hK _ _ (Only.refl _ _) rfl
            · intro a W L N hR hold hφ hcl hkp hd K hK
              have e56 := got hφ (hd 9 (by kernel_rfl)) rfl rfl rfl
              have e53 := got hφ (hd 6 (by kernel_rfl)) rfl rfl rfl
              clear hold hφ hcl hkp hd
              rw [if_pos (by simp [Region.wanted, yielded, e53])]
              go_simp
              exact hK _ _ (Only.refl _ _) rfl
            · intro a W L N hR hold hφ hcl hkp hd K hK
              have e57 := got hφ (hd 10 (by kernel_rfl)) rfl rfl rfl
              have e53 := got hφ (hd 6 (by kernel_rfl)) rfl rfl rfl
              obtain ⟨l0, l1, l2, l3, l4, l5⟩ := Hcl.out W (Only.plus HO1.out.drew hR)
              clear hold hφ hcl hkp hd
              rw [if_pos (by simp [Region.wanted, yielded, e53])]
              go_simp
              exact hK _ _ (Only.refl _ _) rfl
            · intro a W L N hR hold hφ hcl hkp hd K hK
              have e6 := hold 6 (by kernel_rfl)
              have e53 := got hφ (hd 6 (by kernel_rfl)) rfl rfl rfl
              clear hold hφ hcl hkp hd
              rw [if_pos (by simp [Region.wanted, yielded, e53])]
              go_simp
              exact hK _ _ (Only.refl _ _) rfl
            · intro a W L N hR hold hφ hcl hkp hd K hK
              have e59 := got hφ (hd 12 (by kernel_rfl)) rfl rfl rfl
              have e53 := got hφ (hd 6 (by kernel_rfl)) rfl rfl rfl
              clear hold hφ hcl hkp hd
              rw [if_pos (by simp [Region.wanted, yielded, e53])]
              go_simp
              exact hK _ _ (Only.refl _ _) rfl
            · intro a W L N hR hold hφ hcl hkp hd K hK
              have e58 := got hφ (hd 11 (by kernel_rfl)) rfl rfl rfl
              have e60 := got hφ (hd 13 (by kernel_rfl)) rfl rfl rfl
              have e53 := got hφ (hd 6 (by kernel_rfl)) rfl rfl rfl
              clear hold hφ hcl hkp hd
              rw [if_pos (by simp [Region.wanted, yielded, e53])]
              go_simp
              exact hK _ _ (Only.refl _ _) rfl
            · intro a W L N hR hold hφ hcl hkp hd K hK
              have e0 := hold 0 (by kernel_rfl)
              have e53 := got hφ (hd 6 (by kernel_rfl)) rfl rfl rfl
              clear hold hφ hcl hkp hd
              rw [if_pos (by simp [Region.wanted, yielded, e53])]
              go_simp
              exact hK _ _ (Only.refl _ _) rfl
            · intro a W L N hR hold hφ hcl hkp hd K hK
              have e62 := got hφ (hd 15 (by kernel_rfl)) rfl rfl rfl
              have e53 := got hφ (hd 6 (by kernel_rfl)) rfl rfl rfl
              clear hold hφ hcl hkp hd
              rw [if_pos (by simp [Region.wanted, yielded, e53])]
              go_simp
              exact hK _ _ (Only.refl _ _) rfl
            · intro a W L N hR hold hφ hcl hkp hd K hK
              have e61 := got hφ (hd 14 (by kernel_rfl)) rfl rfl rfl
              have e63 := got hφ (hd 16 (by kernel_rfl)) rfl rfl rfl
              have e53 := got hφ (hd 6 (by kernel_rfl)) rfl rfl rfl
              clear hold hφ hcl hkp hd
              rw [if_pos (by simp [Region.wanted, yielded, e53])]
              go_simp
              exact hK _ _ (Only.refl _ _) rfl
            · intro a W L N hR hold hφ hcl hkp hd K hK
              have e53 := got hφ (hd 6 (by kernel_rfl)) rfl rfl rfl
              have e64 := got hφ (hd 17 (by kernel_rfl)) rfl rfl rfl
              clear hold hφ hcl hkp hd
              rw [if_pos (by rfl)]
              go_simp
              exact hK _ _ (Only.refl _ _) rfl
            · intro a W L N hR hold hφ hcl hkp hd K hK
              have e65 := got hφ (hd 18 (by kernel_rfl)) rfl rfl rfl
              clear hold hφ hcl hkp hd
              rw [if_pos (by rfl)]
              go_simp
              exact hK _ _ (Only.refl _ _) rfl
            · intro a W L N hR hold hφ hcl hkp hd K hK
              have e0 := hold 0 (by kernel_rfl)
              have e66 := got hφ (hd 19 (by kernel_rfl)) rfl rfl rfl
              clear hold hφ hcl hkp hd
              rw [if_pos (by simp [Region.wanted, yielded, e66])]
              go_simp
              exact hK _ _ (Only.refl _ _) rfl
            · intro a W L N hR hold hφ hcl hkp hd K hK
              have e1 := hold 1 (by kernel_rfl)
              have e66 := got hφ (hd 19 (by kernel_rfl)) rfl rfl rfl
              clear hold hφ hcl hkp hd
              rw [if_pos (by simp [Region.wanted, yielded, e66])]
              go_simp
              exact hK _ _ (Only.refl _ _) rfl
            · intro a W L N hR hold hφ hcl hkp hd K hK
              have e5 := hold 5 (by kernel_rfl)
              have e66 := got hφ (hd 19 (by kernel_rfl)) rfl rfl rfl
              clear hold hφ hcl hkp hd
              rw [if_pos (by simp [Region.wanted, yielded, e66])]
              go_simp
              exact hK _ _ (Only.refl _ _) rfl
            · intro a W L N hR hold hφ hcl hkp hd K hK
              have e68 := got hφ (hd 21 (by kernel_rfl)) rfl rfl rfl
              have e69 := got hφ (hd 22 (by kernel_rfl)) rfl rfl rfl
              have e66 := got hφ (hd 19 (by kernel_rfl)) rfl rfl rfl
              clear hold hφ hcl hkp hd
              rw [if_pos (by simp [Region.wanted, yielded, e66])]
              go_simp
              exact hK _ _ (Only.refl _ _) rfl
            · intro a W L N hR hold hφ hcl hkp hd K hK
              have e70 := got hφ (hd 23 (by kernel_rfl)) rfl rfl rfl
              have e66 := got hφ (hd 19 (by kernel_rfl)) rfl rfl rfl
              clear hold hφ hcl hkp hd
              rw [if_pos (by simp [Region.wanted, yielded, e66])]
              go_simp
              exact hK _ _ (Only.refl _ _) rfl
            · intro a W L N hR hold hφ hcl hkp hd K hK
              have e71 := got hφ (hd 24 (by kernel_rfl)) rfl rfl rfl
              have e66 := got hφ (hd 19 (by kernel_rfl)) rfl rfl rfl
              obtain ⟨l0, l1, l2, l3, l4, l5⟩ := Hcl.out W (Only.plus HO1.out.drew hR)
              clear hold hφ hcl hkp hd
              rw [if_pos (by simp [Region.wanted, yielded, e66])]
              go_simp
              exact hK _ _ (Only.refl _ _) rfl
            · intro a W L N hR hold hφ hcl hkp hd K hK
              have e1 := hold 1 (by kernel_rfl)
              have e66 := got hφ (hd 19 (by kernel_rfl)) rfl rfl rfl
              clear hold hφ hcl hkp hd
              rw [if_pos (by simp [Region.wanted, yielded, e66])]
              go_simp
              exact hK _ _ (Only.refl _ _) rfl
            · intro a W L N hR hold hφ hcl hkp hd K hK
              have e5 := hold 5 (by kernel_rfl)
              have e66 := got hφ (hd 19 (by kernel_rfl)) rfl rfl rfl
              clear hold hφ hcl hkp hd
              rw [if_pos (by simp [Region.wanted, yielded, e66])]
              go_simp
              exact hK _ _ (Only.refl _ _) rfl
            · intro a W L N hR hold hφ hcl hkp hd K hK
              have e73 := got hφ (hd 26 (by kernel_rfl)) rfl rfl rfl
              have e74 := got hφ (hd 27 (by kernel_rfl)) rfl rfl rfl
              have e66 := got hφ (hd 19 (by kernel_rfl)) rfl rfl rfl
              clear hold hφ hcl hkp hd
              rw [if_pos (by simp [Region.wanted, yielded, e66])]
              go_simp
              exact hK _ _ (Only.refl _ _) rfl
            · intro a W L N hR hold hφ hcl hkp hd K hK
              have e75 := got hφ (hd 28 (by kernel_rfl)) rfl rfl rfl
              have e66 := got hφ (hd 19 (by kernel_rfl)) rfl rfl rfl
              clear hold hφ hcl hkp hd
              rw [if_pos (by simp [Region.wanted, yielded, e66])]
              go_simp
              exact hK _ _ (Only.refl _ _) rfl
            · intro a W L N hR hold hφ hcl hkp hd K hK
              have e76 := got hφ (hd 29 (by kernel_rfl)) rfl rfl rfl
              have e66 := got hφ (hd 19 (by kernel_rfl)) rfl rfl rfl
              obtain ⟨l0, l1, l2, l3, l4, l5⟩ := Hcl.out W (Only.plus HO1.out.drew hR)
              clear hold hφ hcl hkp hd
              rw [if_pos (by simp [Region.wanted, yielded, e66])]
              go_simp
              exact hK _ _ (Only.refl _ _) rfl
            · intro a W L N hR hold hφ hcl hkp hd K hK
              have e6 := hold 6 (by kernel_rfl)
              have e66 := got hφ (hd 19 (by kernel_rfl)) rfl rfl rfl
              clear hold hφ hcl hkp hd
              rw [if_pos (by simp [Region.wanted, yielded, e66])]
              go_simp
              exact hK _ _ (Only.refl _ _) rfl
            · intro a W L N hR hold hφ hcl hkp hd K hK
              have e78 := got hφ (hd 31 (by kernel_rfl)) rfl rfl rfl
              have e66 := got hφ (hd 19 (by kernel_rfl)) rfl rfl rfl
              clear hold hφ hcl hkp hd
              rw [if_pos (by simp [Region.wanted, yielded, e66])]
              go_simp
              exact hK _ _ (Only.refl _ _) rfl
            · intro a W L N hR hold hφ hcl hkp hd K hK
              have e77 := got hφ (hd 30 (by kernel_rfl)) rfl rfl rfl
              have e79 := got hφ (hd 32 (by kernel_rfl)) rfl rfl rfl
              have e66 := got hφ (hd 19 (by kernel_rfl)) rfl rfl rfl
              clear hold hφ hcl hkp hd
              rw [if_pos (by simp [Region.wanted, yielded, e66])]
              go_simp
              exact hK _ _ (Only.refl _ _) rfl
            · intro a W L N hR hold hφ hcl hkp hd K hK
              have e67 := got hφ (hd 20 (by kernel_rfl)) rfl rfl rfl
              have e72 := got hφ (hd 25 (by kernel_rfl)) rfl rfl rfl
              have e80 := got hφ (hd 33 (by kernel_rfl)) rfl rfl rfl
              have e66 := got hφ (hd 19 (by kernel_rfl)) rfl rfl rfl
              clear hold hφ hcl hkp hd
              rw [if_pos (by simp [Region.wanted, yielded, e66])]
              go_simp
              exact hK _ _ (Only.refl _ _) rfl
            · intro a W L N hR hold hφ hcl hkp hd K hK
              have e6 := hold 6 (by kernel_rfl)
              have e66 := got hφ (hd 19 (by kernel_rfl)) rfl rfl rfl
              clear hold hφ hcl hkp hd
              rw [if_pos (by simp [Region.wanted, yielded, e66])]
              go_simp
              exact hK _ _ (Only.refl _ _) rfl
            · intro a W L N hR hold hφ hcl hkp hd K hK
              have e81 := got hφ (hd 34 (by kernel_rfl)) rfl rfl rfl
              have e82 := got hφ (hd 35 (by kernel_rfl)) rfl rfl rfl
              have e66 := got hφ (hd 19 (by kernel_rfl)) rfl rfl rfl
              clear hold hφ hcl hkp hd
              rw [if_pos (by simp [Region.wanted, yielded, e66])]
              go_simp
              exact hK _ _ (Only.refl _ _) rfl
            · intro a W L N hR hold hφ hcl hkp hd K hK
              have e66 := got hφ (hd 19 (by kernel_rfl)) rfl rfl rfl
              have e83 := got hφ (hd 36 (by kernel_rfl)) rfl rfl rfl
              clear hold hφ hcl hkp hd
              rw [if_pos (by rfl)]
              go_simp
              exact hK _ _ (Only.refl _ _) rfl
            · intro a W L N hR hold hφ hcl hkp hd K hK
              have e84 := got hφ (hd 37 (by kernel_rfl)) rfl rfl rfl
              clear hold hφ hcl hkp hd
              rw [if_pos (by rfl)]
              go_simp
              exact hK _ _ (Only.refl _ _) rfl
            · intro a W L N hR hold hφ hcl hkp hd K hK
              have e0 := hold 0 (by kernel_rfl)
              have e85 := got hφ (hd 38 (by kernel_rfl)) rfl rfl rfl
              clear hold hφ hcl hkp hd
              rw [if_pos (by simp [Region.wanted, yielded, e85])]
              go_simp
              exact hK _ _ (Only.refl _ _) rfl
            · intro a W L N hR hold hφ hcl hkp hd K hK
              have e1 := hold 1 (by kernel_rfl)
              have e85 := got hφ (hd 38 (by kernel_rfl)) rfl rfl rfl
              clear hold hφ hcl hkp hd
              rw [if_pos (by simp [Region.wanted, yielded, e85])]
              go_simp
              exact hK _ _ (Only.refl _ _) rfl
            · intro a W L N hR hold hφ hcl hkp hd K hK
              have e5 := hold 5 (by kernel_rfl)
              have e85 := got hφ (hd 38 (by kernel_rfl)) rfl rfl rfl
              clear hold hφ hcl hkp hd
              rw [if_pos (by simp [Region.wanted, yielded, e85])]
              go_simp
              exact hK _ _ (Only.refl _ _) rfl
            · intro a W L N hR hold hφ hcl hkp hd K hK
              have e87 := got hφ (hd 40 (by kernel_rfl)) rfl rfl rfl
              have e88 := got hφ (hd 41 (by kernel_rfl)) rfl rfl rfl
              have e85 := got hφ (hd 38 (by kernel_rfl)) rfl rfl rfl
              clear hold hφ hcl hkp hd
              rw [if_pos (by simp [Region.wanted, yielded, e85])]
              go_simp
              exact hK _ _ (Only.refl _ _) rfl
            · intro a W L N hR hold hφ hcl hkp hd K hK
              have e89 := got hφ (hd 42 (by kernel_rfl)) rfl rfl rfl
              have e85 := got hφ (hd 38 (by kernel_rfl)) rfl rfl rfl
              clear hold hφ hcl hkp hd
              rw [if_pos (by simp [Region.wanted, yielded, e85])]
              go_simp
              exact hK _ _ (Only.refl _ _) rfl
            · intro a W L N hR hold hφ hcl hkp hd K hK
              have e90 := got hφ (hd 43 (by kernel_rfl)) rfl rfl rfl
              have e85 := got hφ (hd 38 (by kernel_rfl)) rfl rfl rfl
              obtain ⟨l0, l1, l2, l3, l4, l5⟩ := Hcl.out W (Only.plus HO1.out.drew hR)
              clear hold hφ hcl hkp hd
              rw [if_pos (by simp [Region.wanted, yielded, e85])]
              go_simp
              exact hK _ _ (Only.refl _ _) rfl
            · intro a W L N hR hold hφ hcl hkp hd K hK
              have e86 := got hφ (hd 39 (by kernel_rfl)) rfl rfl rfl
              have e91 := got hφ (hd 44 (by kernel_rfl)) rfl rfl rfl
              have e85 := got hφ (hd 38 (by kernel_rfl)) rfl rfl rfl
              have hW := Only.plus HO1.out.drew hR
              clear hold hφ hcl hkp hd
              rw [if_pos (by simp [Region.wanted, yielded, e85])]
              go_simp
              refine (HRA.out W hW).mono ?_
              rintro e w' ⟨rfl, hO'⟩
              exact hK _ _ hO' rfl
            · intro a W L N hR hold hφ hcl hkp hd K hK
              have e92 := got hφ (hd 45 (by kernel_rfl)) rfl rfl rfl
              have e85 := got hφ (hd 38 (by kernel_rfl)) rfl rfl rfl
              clear hold hφ hcl hkp hd
              rw [if_pos (by simp [Region.wanted, yielded, e85])]
              go_simp
              exact hK _ _ (Only.refl _ _) rfl
            · intro a W L N hR hold hφ hcl hkp hd K hK
              have e85 := got hφ (hd 38 (by kernel_rfl)) rfl rfl rfl
              have e93 := got hφ (hd 46 (by kernel_rfl)) rfl rfl rfl
              clear hold hφ hcl hkp hd
              rw [if_pos (by rfl)]
              go_simp
              exact hK _ _ (Only.refl _ _) rfl
            · intro a W L N hR hold hφ hcl hkp hd K hK
              have e94 := got hφ (hd 47 (by kernel_rfl)) rfl rfl rfl
              clear hold hφ hcl hkp hd
              rw [if_pos (by rfl)]
              go_simp
              exact hK _ _ (Only.refl _ _) rfl
            · intro a W L N hR hold hφ hcl hkp hd K hK
              have e0 := hold 0 (by kernel_rfl)
              have e95 := got hφ (hd 48 (by kernel_rfl)) rfl rfl rfl
              clear hold hφ hcl hkp hd
              rw [if_pos (by simp [Region.wanted, yielded, e95])]
              go_simp
              exact hK _ _ (Only.refl _ _) rfl
            · intro a W L N hR hold hφ hcl hkp hd K hK
              have e1 := hold 1 (by kernel_rfl)
              have e95 := got hφ (hd 48 (by kernel_rfl)) rfl rfl rfl
              clear hold hφ hcl hkp hd
              rw [if_pos (by simp [Region.wanted, yielded, e95])]
              go_simp
              exact hK _ _ (Only.refl _ _) rfl
            · intro a W L N hR hold hφ hcl hkp hd K hK
              have e5 := hold 5 (by kernel_rfl)
              have e95 := got hφ (hd 48 (by kernel_rfl)) rfl rfl rfl
              clear hold hφ hcl hkp hd
              rw [if_pos (by simp [Region.wanted, yielded, e95])]
              go_simp
              exact hK _ _ (Only.refl _ _) rfl
            · intro a W L N hR hold hφ hcl hkp hd K hK
              have e97 := got hφ (hd 50 (by kernel_rfl)) rfl rfl rfl
              have e98 := got hφ (hd 51 (by kernel_rfl)) rfl rfl rfl
              have e95 := got hφ (hd 48 (by kernel_rfl)) rfl rfl rfl
              clear hold hφ hcl hkp hd
              rw [if_pos (by simp [Region.wanted, yielded, e95])]
              go_simp
              exact hK _ _ (Only.refl _ _) rfl
            · intro a W L N hR hold hφ hcl hkp hd K hK
              have e99 := got hφ (hd 52 (by kernel_rfl)) rfl rfl rfl
              have e95 := got hφ (hd 48 (by kernel_rfl)) rfl rfl rfl
              clear hold hφ hcl hkp hd
              rw [if_pos (by simp [Region.wanted, yielded, e95])]
              go_simp
              exact hK _ _ (Only.refl _ _) rfl
            · intro a W L N hR hold hφ hcl hkp hd K hK
              have e100 := got hφ (hd 53 (by kernel_rfl)) rfl rfl rfl
              have e95 := got hφ (hd 48 (by kernel_rfl)) rfl rfl rfl
              obtain ⟨l0, l1, l2, l3, l4, l5⟩ := Hcl.out W (Only.plus HO1.out.drew hR)
              clear hold hφ hcl hkp hd
              rw [if_pos (by simp [Region.wanted, yielded, e95])]
              go_simp
              exact hK _ _ (Only.refl _ _) rfl
            · intro a W L N hR hold hφ hcl hkp hd K hK
              have e96 := got hφ (hd 49 (by kernel_rfl)) rfl rfl rfl
              have e101 := got hφ (hd 54 (by kernel_rfl)) rfl rfl rfl
              have e95 := got hφ (hd 48 (by kernel_rfl)) rfl rfl rfl
              have hW := Only.plus HO1.out.drew hR
              clear hold hφ hcl hkp hd
              rw [if_pos (by simp [Region.wanted, yielded, e95])]
              go_simp
              refine (HRB.out W hW).mono ?_
              rintro e w' ⟨rfl, hO'⟩
              exact hK _ _ hO' rfl
            · intro a W L N hR hold hφ hcl hkp hd K hK
              have e102 := got hφ (hd 55 (by kernel_rfl)) rfl rfl rfl
              have e95 := got hφ (hd 48 (by kernel_rfl)) rfl rfl rfl
              clear hold hφ hcl hkp hd
              rw [if_pos (by simp [Region.wanted, yielded, e95])]
              go_simp
              exact hK _ _ (Only.refl _ _) rfl
            · intro a W L N hR hold hφ hcl hkp hd K hK
              have e95 := got hφ (hd 48 (by kernel_rfl)) rfl rfl rfl
              have e103 := got hφ (hd 56 (by kernel_rfl)) rfl rfl rfl
              clear hold hφ hcl hkp hd
              rw [if_pos (by rfl)]
              go_simp
              exact hK _ _ (Only.refl _ _) rfl
            · intro a W L N hR hold hφ hcl hkp hd K hK
              have e104 := got hφ (hd 57 (by kernel_rfl)) rfl rfl rfl
              clear hold hφ hcl hkp hd
              rw [if_pos (by rfl)]
              go_simp
              exact hK _ _ (Only.refl _ _) rfl
            · intro a W L N hR hold hφ hcl hkp hd K hK
              have e5 := hold 5 (by kernel_rfl)
              have e105 := got hφ (hd 58 (by kernel_rfl)) rfl rfl rfl
              clear hold hφ hcl hkp hd
              rw [if_pos (by simp [Region.wanted, yielded, e105])]
              go_simp
              exact hK _ _ (Only.refl _ _) rfl
            · intro a W L N hR hold hφ hcl hkp hd K hK
              have e106 := got hφ (hd 59 (by kernel_rfl)) rfl rfl rfl
              have e105 := got hφ (hd 58 (by kernel_rfl)) rfl rfl rfl
              clear hold hφ hcl hkp hd
              rw [if_pos (by simp [Region.wanted, yielded, e105])]
              go_simp
              exact hK _ _ (Only.refl _ _) rfl
            · intro a W L N hR hold hφ hcl hkp hd K hK
              have e107 := got hφ (hd 60 (by kernel_rfl)) rfl rfl rfl
              have e105 := got hφ (hd 58 (by kernel_rfl)) rfl rfl rfl
              clear hold hφ hcl hkp hd
              rw [if_pos (by simp [Region.wanted, yielded, e105])]
              go_simp
              exact hK _ _ (Only.refl _ _) rfl
            · intro a W L N hR hold hφ hcl hkp hd K hK
              have e1 := hold 1 (by kernel_rfl)
              have e108 := got hφ (hd 61 (by kernel_rfl)) rfl rfl rfl
              clear hold hφ hcl hkp hd
              rw [if_neg (by simp [Region.wanted, yielded, e108])]
              exact hK _ _ (Only.refl _ _) rfl
            · intro a W L N hR hold hφ hcl hkp hd K hK
              have e5 := hold 5 (by kernel_rfl)
              have e108 := got hφ (hd 61 (by kernel_rfl)) rfl rfl rfl
              clear hold hφ hcl hkp hd
              rw [if_neg (by simp [Region.wanted, yielded, e108])]
              exact hK _ _ (Only.refl _ _) rfl
            · intro a W L N hR hold hφ hcl hkp hd K hK
              have e110 := got hφ (hd 63 (by kernel_rfl)) rfl rfl rfl
              have e108 := got hφ (hd 61 (by kernel_rfl)) rfl rfl rfl
              clear hold hφ hcl hkp hd
              rw [if_neg (by simp [Region.wanted, yielded, e108])]
              exact hK _ _ (Only.refl _ _) rfl
            · intro a W L N hR hold hφ hcl hkp hd K hK
              have e109 := got hφ (hd 62 (by kernel_rfl)) rfl rfl rfl
              have e111 := got hφ (hd 64 (by kernel_rfl)) rfl rfl rfl
              have e108 := got hφ (hd 61 (by kernel_rfl)) rfl rfl rfl
              clear hold hφ hcl hkp hd
              rw [if_neg (by simp [Region.wanted, yielded, e108])]
              exact hK _ _ (Only.refl _ _) rfl
            · intro a W L N hR hold hφ hcl hkp hd K hK
              have e112 := got hφ (hd 65 (by kernel_rfl)) rfl rfl rfl
              have e108 := got hφ (hd 61 (by kernel_rfl)) rfl rfl rfl
              clear hold hφ hcl hkp hd
              rw [if_neg (by simp [Region.wanted, yielded, e108])]
              exact hK _ _ (Only.refl _ _) rfl
            · intro a W L N hR hold hφ hcl hkp hd K hK
              have e113 := got hφ (hd 66 (by kernel_rfl)) rfl rfl rfl
              have e108 := got hφ (hd 61 (by kernel_rfl)) rfl rfl rfl
              clear hold hφ hcl hkp hd
              rw [if_neg (by simp [Region.wanted, yielded, e108])]
              exact hK _ _ (Only.refl _ _) rfl
            · intro a W L N hR hold hφ hcl hkp hd K hK
              have e1 := hold 1 (by kernel_rfl)
              have e108 := got hφ (hd 61 (by kernel_rfl)) rfl rfl rfl
              clear hold hφ hcl hkp hd
              rw [if_neg (by simp [Region.wanted, yielded, e108])]
              exact hK _ _ (Only.refl _ _) rfl
            · intro a W L N hR hold hφ hcl hkp hd K hK
              have e5 := hold 5 (by kernel_rfl)
              have e108 := got hφ (hd 61 (by kernel_rfl)) rfl rfl rfl
              clear hold hφ hcl hkp hd
              rw [if_neg (by simp [Region.wanted, yielded, e108])]
              exact hK _ _ (Only.refl _ _) rfl
            · intro a W L N hR hold hφ hcl hkp hd K hK
              have e115 := got hφ (hd 68 (by kernel_rfl)) rfl rfl rfl
              have e116 := got hφ (hd 69 (by kernel_rfl)) rfl rfl rfl
              have e108 := got hφ (hd 61 (by kernel_rfl)) rfl rfl rfl
              clear hold hφ hcl hkp hd
              rw [if_neg (by simp [Region.wanted, yielded, e108])]
              exact hK _ _ (Only.refl _ _) rfl
            · intro a W L N hR hold hφ hcl hkp hd K hK
              have e117 := got hφ (hd 70 (by kernel_rfl)) rfl rfl rfl
              have e108 := got hφ (hd 61 (by kernel_rfl)) rfl rfl rfl
              clear hold hφ hcl hkp hd
              rw [if_neg (by simp [Region.wanted, yielded, e108])]
              exact hK _ _ (Only.refl _ _) rfl
            · intro a W L N hR hold hφ hcl hkp hd K hK
              have e118 := got hφ (hd 71 (by kernel_rfl)) rfl rfl rfl
              have e108 := got hφ (hd 61 (by kernel_rfl)) rfl rfl rfl
              clear hold hφ hcl hkp hd
              rw [if_neg (by simp [Region.wanted, yielded, e108])]
              exact hK _ _ (Only.refl _ _) rfl
            · intro a W L N hR hold hφ hcl hkp hd K hK
              have e114 := got hφ (hd 67 (by kernel_rfl)) rfl rfl rfl
              have e119 := got hφ (hd 72 (by kernel_rfl)) rfl rfl rfl
              have e108 := got hφ (hd 61 (by kernel_rfl)) rfl rfl rfl
              clear hold hφ hcl hkp hd
              rw [if_neg (by simp [Region.wanted, yielded, e108])]
              exact hK _ _ (Only.refl _ _) rfl
            · intro a W L N hR hold hφ hcl hkp hd K hK
              have e108 := got hφ (hd 61 (by kernel_rfl)) rfl rfl rfl
              have e120 := got hφ (hd 73 (by kernel_rfl)) rfl rfl rfl
              have e105 := got hφ (hd 58 (by kernel_rfl)) rfl rfl rfl
              clear hold hφ hcl hkp hd
              rw [if_pos (by simp [Region.wanted, yielded, e105])]
              go_simp
              exact hK _ _ (Only.refl _ _) rfl
            · intro a W L N hR hold hφ hcl hkp hd K hK
              have e105 := got hφ (hd 58 (by kernel_rfl)) rfl rfl rfl
              have e121 := got hφ (hd 74 (by kernel_rfl)) rfl rfl rfl
              clear hold hφ hcl hkp hd
              rw [if_pos (by rfl)]
              go_simp
              exact hK _ _ (Only.refl _ _) rfl
          · intro us W hO' hus
            have p75 : us 75 = .bool false := hus 75 _ 122 (by omega) rfl rfl
            clear hus
            simp only [List.take_succ_cons, List.take_zero, List.drop_succ_cons, List.drop_zero, fillAct, Act.put, List.setIfInBounds_toArray, List.set_cons_zero, List.set_cons_succ, Nat.reduceAdd, p75]
            clear p75
            have HO4 := Lib.hid (Only.plus HO1.out.drew hO')
            clear hO'
            go_wp2_with fail
            go_meet
            exact HO4.out
        · obtain ⟨pp, hpp, hlo2⟩ := Hpv.out (by omega)
          have Hpc : Hid (∀ W, Only [] wr W → W.cell? ⟨g, (j - 1) * 5 + 1, none⟩ = some (.int .i64 pp)) := Lib.hid (fun W hW => ((HO.out.plus hW).cell (p := ⟨g, (j - 1) * 5 + 1, none⟩) hg (by simp)).trans hpp)
          have hji0 : (0 : Int) < (j : Int) := by omega
          have hjn : 0 < j := by omega
          have hjd2 : decide (0 < j) = true := by simp; omega
          have hjw : IntKind.i64.wrap ((j : Int) - 1) = ((j - 1 : Nat) : Int) := by rw [Go.IntWalk.i64_in _ (by omega)]; omega
          have hjm0 : (0 : Int) ≤ ((j - 1 : Nat) : Int) := by omega
          have hjm1 : ((j - 1 : Nat) : Int) < (b.len : Int) := by omega
          have hge : ¬ (pl : Int) ≤ (pp : Int) := by omega
          clear hpp
          go_upto_region 9 with fail
          simp only [List.append_eq, List.cons_append, List.nil_append]
          refine wp_region_stabL (P := Try.prog) 76 (by kernel_rfl) (by kernel_rfl) (Only []) (Only.refl _ _) (fun _ _ _ h k => h.then k [] (by simp) (by simp))
            [SP.is (.slice (some ⟨g, 0, none⟩) b.len c),
             SP.is (.int .i64 j),
             SP.is (.pointer (some ⟨g, j * 5, none⟩)),
             SP.is (.pointer (some ⟨g, j * 5 + 1, none⟩)),
             SP.is (.int .i64 pl),
             SP.is (.bool false),
             SP.is (.bool false),
             SP.is (.slice (some ⟨g, 0, none⟩) b.len c),
             SP.is (.int .i64 j),
             SP.is (.pointer (some ⟨g, j * 5, none⟩)),
             SP.is (.pointer (some ⟨g, j * 5 + 1, none⟩)),
             SP.is (.int .i64 pl),
             SP.is (.string ⟨cw.toArray⟩),
             SP.is (.int .i64 cw.length),
             SP.is (.int .i64 ((pl : Int) + (cw.length : Int))),
             SP.is (.string ⟨s.toArray⟩),
             SP.is (.int .i64 s.length),
             SP.is (.bool false),
             SP.is (.bool false),
             SP.is (.bool false),
             SP.is (.string ⟨s.toArray⟩),
             SP.is (.slice (some ⟨g, 0, none⟩) b.len c),
             SP.is (.int .i64 j),
             SP.is (.pointer (some ⟨g, j * 5, none⟩)),
             SP.is (.pointer (some ⟨g, j * 5 + 1, none⟩)),
             SP.is (.int .i64 pl),
             SP.is (.slice (some ⟨g, 0, none⟩) b.len c),
             SP.is (.int .i64 j),
             SP.is (.pointer (some ⟨g, j * 5, none⟩)),
             SP.is (.pointer (some ⟨g, j * 5 + 1, none⟩)),
             SP.is (.int .i64 pl),
             SP.is (.string ⟨cw.toArray⟩),
             SP.is (.int .i64 cw.length),
             SP.is (.int .i64 ((pl : Int) + (cw.length : Int))),
             SP.is (.string ⟨cw.toArray⟩),
             SP.is (.string ⟨cw.toArray⟩),
             SP.is (.bool false),
             SP.is (.bool false),
             SP.is (.bool false),
             SP.is (.string ⟨s.toArray⟩),
             SP.is (.slice (some ⟨g, 0, none⟩) b.len c),
             SP.is (.int .i64 j),
             SP.is (.pointer (some ⟨g, j * 5, none⟩)),
             SP.is (.pointer (some ⟨g, j * 5 + 3, none⟩)),
             SP.is (.slice aa A.len ca),
             SP.is (.bool true),
             SP.is (.bool false),
             SP.is (.bool false),
             SP.is (.bool false),
             SP.is (.string ⟨s.toArray⟩),
             SP.is (.slice (some ⟨g, 0, none⟩) b.len c),
             SP.is (.int .i64 j),
             SP.is (.pointer (some ⟨g, j * 5, none⟩)),
             SP.is (.pointer (some ⟨g, j * 5 + 4, none⟩)),
             SP.is (.slice ab B.len cb),
             SP.is (.bool true),
             SP.is (.bool false),
             SP.is (.bool false),
             SP.is (.bool false),
             SP.is (.int .i64 j),
             SP.is (.bool true),
             SP.is (.bool true),
             SP.is (.slice (some ⟨g, 0, none⟩) b.len c),
             SP.is (.int .i64 j),
             SP.is (.int .i64 (j - 1 : Nat)),
             SP.is (.pointer (some ⟨g, (j - 1) * 5, none⟩)),
             SP.is (.pointer (some ⟨g, (j - 1) * 5 + 1, none⟩)),
             SP.is (.int .i64 pp),
             SP.is (.slice (some ⟨g, 0, none⟩) b.len c),
             SP.is (.int .i64 j),
             SP.is (.pointer (some ⟨g, j * 5, none⟩)),
             SP.is (.pointer (some ⟨g, j * 5 + 1, none⟩)),
             SP.is (.int .i64 pl),
             SP.is (.bool false),
             SP.is (.bool false),
             SP.is (.bool false)] ?_ ?_
          · simp only [List.take_succ_cons, List.take_zero]
            refine StepsOK.cons ?_ (StepsOK.cons ?_ (StepsOK.cons ?_ (StepsOK.cons ?_ (StepsOK.cons ?_ (StepsOK.cons ?_ (StepsOK.cons ?_ (StepsOK.cons ?_ (StepsOK.cons ?_ (StepsOK.cons ?_ (StepsOK.cons ?_ (StepsOK.cons ?_ (StepsOK.cons ?_ (StepsOK.cons ?_ (StepsOK.cons ?_ (StepsOK.cons ?_ (StepsOK.cons ?_ (StepsOK.cons ?_ (StepsOK.cons ?_ (StepsOK.cons ?_ (StepsOK.cons ?_ (StepsOK.cons ?_ (StepsOK.cons ?_ (StepsOK.cons ?_ (StepsOK.cons ?_ (StepsOK.cons ?_ (StepsOK.cons ?_ (StepsOK.cons ?_ (StepsOK.cons ?_ (StepsOK.cons ?_ (StepsOK.cons ?_ (StepsOK.cons ?_ (StepsOK.cons ?_ (StepsOK.cons ?_ (StepsOK.cons ?_ (StepsOK.cons ?_ (StepsOK.cons ?_ (StepsOK.cons ?_ (StepsOK.cons ?_ (StepsOK.cons ?_ (StepsOK.cons ?_ (StepsOK.cons ?_ (StepsOK.cons ?_ (StepsOK.cons ?_ (StepsOK.cons ?_ (StepsOK.cons ?_ (StepsOK.cons ?_ (StepsOK.cons ?_ (StepsOK.cons ?_ (StepsOK.cons ?_ (StepsOK.cons ?_ (StepsOK.cons ?_ (StepsOK.cons ?_ (StepsOK.cons ?_ (StepsOK.cons ?_ (StepsOK.cons ?_ (StepsOK.cons ?_ (StepsOK.cons ?_ (StepsOK.cons ?_ (StepsOK.cons ?_ (StepsOK.cons ?_ (StepsOK.cons ?_ (StepsOK.cons ?_ (StepsOK.cons ?_ (StepsOK.cons ?_ (StepsOK.cons ?_ (StepsOK.cons ?_ (StepsOK.cons ?_ (StepsOK.cons ?_ (StepsOK.cons ?_ (StepsOK.cons ?_ (StepsOK.cons ?_ (StepsOK.cons ?_ (StepsOK.cons ?_ (StepsOK.cons ?_ (StepsOK.cons ?_ StepsOK.nil)))))))))))))))))))))))))))))))))))))))))))))))))))))))))))))))))))))))))))
            · intro a W L N hR hold hφ hcl hkp hd K hK
              have e1 := hold 1 (by kernel_rfl)
              clear hold hφ hcl hkp hd
              rw [if_pos (by rfl)]
              go_simp
              exact hK _ _ (Only.refl _ _) rfl
            · intro a W L N hR hold hφ hcl hkp hd K hK
              have e5 := hold 5 (by kernel_rfl)
              clear hold hφ hcl hkp hd
              rw [if_pos (by rfl)]
              go_simp
              exact hK _ _ (Only.refl _ _) rfl
            · intro a W L N hR hold hφ hcl hkp hd K hK
              have e47 := got hφ (hd 0 (by kernel_rfl)) rfl rfl rfl
              have e48 := got hφ (hd 1 (by kernel_rfl)) rfl rfl rfl
              clear hold hφ hcl hkp hd
              rw [if_pos (by rfl)]
              go_simp
              exact hK _ _ (Only.refl _ _) rfl
            · intro a W L N hR hold hφ hcl hkp hd K hK
              have e49 := got hφ (hd 2 (by kernel_rfl)) rfl rfl rfl
              clear hold hφ hcl hkp hd
              rw [if_pos (by rfl)]
              go_simp
              exact hK _ _ (Only.refl _ _) rfl
            · intro a W L N hR hold hφ hcl hkp hd K hK
              have e50 := got hφ (hd 3 (by kernel_rfl)) rfl rfl rfl
              obtain ⟨l0, l1, l2, l3, l4, l5⟩ := Hcl.out W (Only.plus HO1.out.drew hR)
              clear hold hφ hcl hkp hd
              rw [if_pos (by rfl)]
              go_simp
              exact hK _ _ (Only.refl _ _) rfl
            · intro a W L N hR hold hφ hcl hkp hd K hK
              have e51 := got hφ (hd 4 (by kernel_rfl)) rfl rfl rfl
              clear hold hφ hcl hkp hd
              rw [if_pos (by rfl)]
              go_simp
              exact hK _ _ (Only.refl _ _) rfl
            · intro a W L N hR hold hφ hcl hkp hd K hK
              have e52 := got hφ (hd 5 (by kernel_rfl)) rfl rfl rfl
              clear hold hφ hcl hkp hd
              rw [if_pos (by rfl)]
              go_simp
              exact hK _ _ (Only.refl _ _) rfl
            · intro a W L N hR hold hφ hcl hkp hd K hK
              have e1 := hold 1 (by kernel_rfl)
              have e53 := got hφ (hd 6 (by kernel_rfl)) rfl rfl rfl
              clear hold hφ hcl hkp hd
              rw [if_pos (by simp [Region.wanted, yielded, e53])]
              go_simp
              exact hK _ _ (Only.refl _ _) rfl
            · intro a W L N hR hold hφ hcl hkp hd K hK
              have e5 := hold 5 (by kernel_rfl)
              have e53 := got hφ (hd 6 (by kernel_rfl)) rfl rfl rfl
              clear hold hφ hcl hkp hd
              rw [if_pos (by simp [Region.wanted, yielded, e53])]
              go_simp
              exact hK _ _ (Only.refl _ _) rfl
            · intro a W L N hR hold hφ hcl hkp hd K hK
              have e54 := got hφ (hd 7 (by kernel_rfl)) rfl rfl rfl
              have e55 := got hφ (hd 8 (by kernel_rfl)) rfl rfl rfl
              have e53 := got hφ (hd 6 (by kernel_rfl)) rfl rfl rfl
              clear hold hφ hcl hkp hd
              rw [if_pos (by simp [Region.wanted, yielded, e53])]
              go_simp
              exact hK _ _ (Only.refl _ _) rfl
            · intro a W L N hR hold hφ hcl hkp hd K hK
              have e56 := got hφ (hd 9 (by kernel_rfl)) rfl rfl rfl
              have e53 := got hφ (hd 6 (by kernel_rfl)) rfl rfl rfl
              clear hold hφ hcl hkp hd
              rw [if_pos (by simp [Region.wanted, yielded, e53])]
              go_simp
              exact hK _ _ (Only.refl _ _) rfl
            · intro a W L N hR hold hφ hcl hkp hd K hK
              have e57 := got hφ (hd 10 (by kernel_rfl)) rfl rfl rfl
              have e53 := got hφ (hd 6 (by kernel_rfl)) rfl rfl rfl
              obtain ⟨l0, l1, l2, l3, l4, l5⟩ := Hcl.out W (Only.plus HO1.out.drew hR)
              clear hold hφ hcl hkp hd
              rw [if_pos (by simp [Region.wanted, yielded, e53])]
              go_simp
              exact hK _ _ (Only.refl _ _) rfl
            · intro a W L N hR hold hφ hcl hkp hd K hK
              have e6 := hold 6 (by kernel_rfl)
              have e53 := got hφ (hd 6 (by kernel_rfl)) rfl rfl rfl
              clear hold hφ hcl hkp hd
              rw [if_pos (by simp [Region.wanted, yielded, e53])]
              go_simp
              exact hK _ _ (Only.refl _ _) rfl
            · intro a W L N hR hold hφ hcl hkp hd K hK
              have e59 := got hφ (hd 12 (by kernel_rfl)) rfl rfl rfl
              have e53 := got hφ (hd 6 (by kernel_rfl)) rfl rfl rfl
              clear hold hφ hcl hkp hd
              rw [if_pos (by simp [Region.wanted, yielded, e53])]
              go_simp
              exact hK _ _ (Only.refl _ _) rfl
            · intro a W L N hR hold hφ hcl hkp hd K hK
              have e58 := got hφ (hd 11 (by kernel_rfl)) rfl rfl rfl
              have e60 := got hφ (hd 13 (by kernel_rfl)) rfl rfl rfl
              have e53 := got hφ (hd 6 (by kernel_rfl)) rfl rfl rfl
              clear hold hφ hcl hkp hd
              rw [if_pos (by simp [Region.wanted, yielded, e53])]
              go_simp
              exact hK _ _ (Only.refl _ _) rfl
            · intro a W L N hR hold hφ hcl hkp hd K hK
              have e0 := hold 0 (by kernel_rfl)
              have e53 := got hφ (hd 6 (by kernel_rfl)) rfl rfl rfl
              clear hold hφ hcl hkp hd
              rw [if_pos (by simp [Region.wanted, yielded, e53])]
              go_simp
              exact hK _ _ (Only.refl _ _) rfl
            · intro a W L N hR hold hφ hcl hkp hd K hK
              have e62 := got hφ (hd 15 (by kernel_rfl)) rfl rfl rfl
              have e53 := got hφ (hd 6 (by kernel_rfl)) rfl rfl rfl
              clear hold hφ hcl hkp hd
              rw [if_pos (by simp [Region.wanted, yielded, e53])]
              go_simp
              exact hK _ _ (Only.refl _ _) rfl
            · intro a W L N hR hold hφ hcl hkp hd K hK
              have e61 := got hφ (hd 14 (by kernel_rfl)) rfl rfl rfl
              have e63 := got hφ (hd 16 (by kernel_rfl)) rfl rfl rfl
              have e53 := got hφ (hd 6 (by kernel_rfl)) rfl rfl rfl
              clear hold hφ hcl hkp hd
              rw [if_pos (by simp [Region.wanted, yielded, e53])]
              go_simp
              exact hK _ _ (Only.refl _ _) rfl
            · intro a W L N hR hold hφ hcl hkp hd K hK
              have e53 := got hφ (hd 6 (by kernel_rfl)) rfl rfl rfl
              have e64 := got hφ (hd 17 (by kernel_rfl)) rfl rfl rfl
              clear hold hφ hcl hkp hd
              rw [if_pos (by rfl)]
              go_simp
              exact hK _ _ (Only.refl _ _) rfl
            · intro a W L N hR hold hφ hcl hkp hd K hK
              have e65 := got hφ (hd 18 (by kernel_rfl)) rfl rfl rfl
              clear hold hφ hcl hkp hd
              rw [if_pos (by rfl)]
              go_simp
              exact hK _ _ (Only.refl _ _) rfl
            · intro a W L N hR hold hφ hcl hkp hd K hK
              have e0 := hold 0 (by kernel_rfl)
              have e66 := got hφ (hd 19 (by kernel_rfl)) rfl rfl rfl
              clear hold hφ hcl hkp hd
              rw [if_pos (by simp [Region.wanted, yielded, e66])]
              go_simp
              exact hK _ _ (Only.refl _ _) rfl
            · intro a W L N hR hold hφ hcl hkp hd K hK
              have e1 := hold 1 (by kernel_rfl)
              have e66 := got hφ (hd 19 (by kernel_rfl)) rfl rfl rfl
              clear hold hφ hcl hkp hd
              rw [if_pos (by simp [Region.wanted, yielded, e66])]
              go_simp
              exact hK _ _ (Only.refl _ _) rfl
            · intro a W L N hR hold hφ hcl hkp hd K hK
              have e5 := hold 5 (by kernel_rfl)
              have e66 := got hφ (hd 19 (by kernel_rfl)) rfl rfl rfl
              clear hold hφ hcl hkp hd
              rw [if_pos (by simp [Region.wanted, yielded, e66])]
              go_simp
              exact hK _ _ (Only.refl _ _) rfl
            · intro a W L N hR hold hφ hcl hkp hd K hK
              have e68 := got hφ (hd 21 (by kernel_rfl)) rfl rfl rfl
              have e69 := got hφ (hd 22 (by kernel_rfl)) rfl rfl rfl
              have e66 := got hφ (hd 19 (by kernel_rfl)) rfl rfl rfl
              clear hold hφ hcl hkp hd
              rw [if_pos (by simp [Region.wanted, yielded, e66])]
              go_simp
              exact hK _ _ (Only.refl _ _) rfl
            · intro a W L N hR hold hφ hcl hkp hd K hK
              have e70 := got hφ (hd 23 (by kernel_rfl)) rfl rfl rfl
              have e66 := got hφ (hd 19 (by kernel_rfl)) rfl rfl rfl
              clear hold hφ hcl hkp hd
              rw [if_pos (by simp [Region.wanted, yielded, e66])]
              go_simp
              exact hK _ _ (Only.refl _ _) rfl
            · intro a W L N hR hold hφ hcl hkp hd K hK
              have e71 := got hφ (hd 24 (by kernel_rfl)) rfl rfl rfl
              have e66 := got hφ (hd 19 (by kernel_rfl)) rfl rfl rfl
              obtain ⟨l0, l1, l2, l3, l4, l5⟩ := Hcl.out W (Only.plus HO1.out.drew hR)
              clear hold hφ hcl hkp hd
              rw [if_pos (by simp [Region.wanted, yielded, e66])]
              go_simp
              exact hK _ _ (Only.refl _ _) rfl
            · intro a W L N hR hold hφ hcl hkp hd K hK
              have e1 := hold 1 (by kernel_rfl)
              have e66 := got hφ (hd 19 (by kernel_rfl)) rfl rfl rfl
              clear hold hφ hcl hkp hd
              rw [if_pos (by simp [Region.wanted, yielded, e66])]
              go_simp
              exact hK _ _ (Only.refl _ _) rfl
            · intro a W L N hR hold hφ hcl hkp hd K hK
              have e5 := hold 5 (by kernel_rfl)
              have e66 := got hφ (hd 19 (by kernel_rfl)) rfl rfl rfl
              clear hold hφ hcl hkp hd
              rw [if_pos (by simp [Region.wanted, yielded, e66])]
              go_simp
              exact hK _ _ (Only.refl _ _) rfl
            · intro a W L N hR hold hφ hcl hkp hd K hK
              have e73 := got hφ (hd 26 (by kernel_rfl)) rfl rfl rfl
              have e74 := got hφ (hd 27 (by kernel_rfl)) rfl rfl rfl
              have e66 := got hφ (hd 19 (by kernel_rfl)) rfl rfl rfl
              clear hold hφ hcl hkp hd
              rw [if_pos (by simp [Region.wanted, yielded, e66])]
              go_simp
              exact hK _ _ (Only.refl _ _) rfl
            · intro a W L N hR hold hφ hcl hkp hd K hK
              have e75 := got hφ (hd 28 (by kernel_rfl)) rfl rfl rfl
              have e66 := got hφ (hd 19 (by kernel_rfl)) rfl rfl rfl
              clear hold hφ hcl hkp hd
              rw [if_pos (by simp [Region.wanted, yielded, e66])]
              go_simp
              exact hK _ _ (Only.refl _ _) rfl
            · intro a W L N hR hold hφ hcl hkp hd K hK
              have e76 := got hφ (hd 29 (by kernel_rfl)) rfl rfl rfl
              have e66 := got hφ (hd 19 (by kernel_rfl)) rfl rfl rfl
              obtain ⟨l0, l1, l2, l3, l4, l5⟩ := Hcl.out W (Only.plus HO1.out.drew hR)
              clear hold hφ hcl hkp hd
              rw [if_pos (by simp [Region.wanted, yielded, e66])]
              go_simp
              exact hK _ _ (Only.refl _ _) rfl
            · intro a W L N hR hold hφ hcl hkp hd K hK
              have e6 := hold 6 (by kernel_rfl)
              have e66 := got hφ (hd 19 (by kernel_rfl)) rfl rfl rfl
              clear hold hφ hcl hkp hd
              rw [if_pos (by simp [Region.wanted, yielded, e66])]
              go_simp
              exact hK _ _ (Only.refl _ _) rfl
            · intro a W L N hR hold hφ hcl hkp hd K hK
              have e78 := got hφ (hd 31 (by kernel_rfl)) rfl rfl rfl
              have e66 := got hφ (hd 19 (by kernel_rfl)) rfl rfl rfl
              clear hold hφ hcl hkp hd
              rw [if_pos (by simp [Region.wanted, yielded, e66])]
              go_simp
              exact hK _ _ (Only.refl _ _) rfl
            · intro a W L N hR hold hφ hcl hkp hd K hK
              have e77 := got hφ (hd 30 (by kernel_rfl)) rfl rfl rfl
              have e79 := got hφ (hd 32 (by kernel_rfl)) rfl rfl rfl
              have e66 := got hφ (hd 19 (by kernel_rfl)) rfl rfl rfl
              clear hold hφ hcl hkp hd
              rw [if_pos (by simp [Region.wanted, yielded, e66])]
              go_simp
              exact hK _ _ (Only.refl _ _) rfl
            · intro a W L N hR hold hφ hcl hkp hd K hK
              have e67 := got hφ (hd 20 (by kernel_rfl)) rfl rfl rfl
              have e72 := got hφ (hd 25 (by kernel_rfl)) rfl rfl rfl
              have e80 := got hφ (hd 33 (by kernel_rfl)) rfl rfl rfl
              have e66 := got hφ (hd 19 (by kernel_rfl)) rfl rfl rfl
              clear hold hφ hcl hkp hd
              rw [if_pos (by simp [Region.wanted, yielded, e66])]
              go_simp
              exact hK _ _ (Only.refl _ _) rfl
            · intro a W L N hR hold hφ hcl hkp hd K hK
              have e6 := hold 6 (by kernel_rfl)
              have e66 := got hφ (hd 19 (by kernel_rfl)) rfl rfl rfl
              clear hold hφ hcl hkp hd
              rw [if_pos (by simp [Region.wanted, yielded, e66])]
              go_simp
              exact hK _ _ (Only.refl _ _) rfl
            · intro a W L N hR hold hφ hcl hkp hd K hK
              have e81 := got hφ (hd 34 (by kernel_rfl)) rfl rfl rfl
              have e82 := got hφ (hd 35 (by kernel_rfl)) rfl rfl rfl
              have e66 := got hφ (hd 19 (by kernel_rfl)) rfl rfl rfl
              clear hold hφ hcl hkp hd
              rw [if_pos (by simp [Region.wanted, yielded, e66])]
              go_simp
              exact hK _ _ (Only.refl _ _) rfl
            · intro a W L N hR hold hφ hcl hkp hd K hK
              have e66 := got hφ (hd 19 (by kernel_rfl)) rfl rfl rfl
              have e83 := got hφ (hd 36 (by kernel_rfl)) rfl rfl rfl
              clear hold hφ hcl hkp hd
              rw [if_pos (by rfl)]
              go_simp
              exact hK _ _ (Only.refl _ _) rfl
            · intro a W L N hR hold hφ hcl hkp hd K hK
              have e84 := got hφ (hd 37 (by kernel_rfl)) rfl rfl rfl
              clear hold hφ hcl hkp hd
              rw [if_pos (by rfl)]
              go_simp
              exact hK _ _ (Only.refl _ _) rfl
            · intro a W L N hR hold hφ hcl hkp hd K hK
              have e0 := hold 0 (by kernel_rfl)
              have e85 := got hφ (hd 38 (by kernel_rfl)) rfl rfl rfl
              clear hold hφ hcl hkp hd
              rw [if_pos (by simp [Region.wanted, yielded, e85])]
              go_simp
              exact hK _ _ (Only.refl _ _) rfl
            · intro a W L N hR hold hφ hcl hkp hd K hK
              have e1 := hold 1 (by kernel_rfl)
              have e85 := got hφ (hd 38 (by kernel_rfl)) rfl rfl rfl
              clear hold hφ hcl hkp hd
              rw [if_pos (by simp [Region.wanted, yielded, e85])]
              go_simp
              exact hK _ _ (Only.refl _ _) rfl
            · intro a W L N hR hold hφ hcl hkp hd K hK
              have e5 := hold 5 (by kernel_rfl)
              have e85 := got hφ (hd 38 (by kernel_rfl)) rfl rfl rfl
              clear hold hφ hcl hkp hd
              rw [if_pos (by simp [Region.wanted, yielded, e85])]
              go_simp
              exact hK _ _ (Only.refl _ _) rfl
            · intro a W L N hR hold hφ hcl hkp hd K hK
              have e87 := got hφ (hd 40 (by kernel_rfl)) rfl rfl rfl
              have e88 := got hφ (hd 41 (by kernel_rfl)) rfl rfl rfl
              have e85 := got hφ (hd 38 (by kernel_rfl)) rfl rfl rfl
              clear hold hφ hcl hkp hd
              rw [if_pos (by simp [Region.wanted, yielded, e85])]
              go_simp
              exact hK _ _ (Only.refl _ _) rfl
            · intro a W L N hR hold hφ hcl hkp hd K hK
              have e89 := got hφ (hd 42 (by kernel_rfl)) rfl rfl rfl
              have e85 := got hφ (hd 38 (by kernel_rfl)) rfl rfl rfl
              clear hold hφ hcl hkp hd
              rw [if_pos (by simp [Region.wanted, yielded, e85])]
              go_simp
              exact hK _ _ (Only.refl _ _) rfl
            · intro a W L N hR hold hφ hcl hkp hd K hK
              have e90 := got hφ (hd 43 (by kernel_rfl)) rfl rfl rfl
              have e85 := got hφ (hd 38 (by kernel_rfl)) rfl rfl rfl
              obtain ⟨l0, l1, l2, l3, l4, l5⟩ := Hcl.out W (Only.plus HO1.out.drew hR)
              clear hold hφ hcl hkp hd
              rw [if_pos (by simp [Region.wanted, yielded, e85])]
              go_simp
              exact hK _ _ (Only.refl _ _) rfl
            · intro a W L N hR hold hφ hcl hkp hd K hK
              have e86 := got hφ (hd 39 (by kernel_rfl)) rfl rfl rfl
              have e91 := got hφ (hd 44 (by kernel_rfl)) rfl rfl rfl
              have e85 := got hφ (hd 38 (by kernel_rfl)) rfl rfl rfl
              have hW := Only.plus HO1.out.drew hR
              clear hold hφ hcl hkp hd
              rw [if_pos (by simp [Region.wanted, yielded, e85])]
              go_simp
              refine (HRA.out W hW).mono ?_
              rintro e w' ⟨rfl, hO'⟩
              exact hK _ _ hO' rfl
            · intro a W L N hR hold hφ hcl hkp hd K hK
              have e92 := got hφ (hd 45 (by kernel_rfl)) rfl rfl rfl
              have e85 := got hφ (hd 38 (by kernel_rfl)) rfl rfl rfl
              clear hold hφ hcl hkp hd
              rw [if_pos (by simp [Region.wanted, yielded, e85])]
              go_simp
              exact hK _ _ (Only.refl _ _) rfl
            · intro a W L N hR hold hφ hcl hkp hd K hK
              have e85 := got hφ (hd 38 (by kernel_rfl)) rfl rfl rfl
              have e93 := got hφ (hd 46 (by kernel_rfl)) rfl rfl rfl
              clear hold hφ hcl hkp hd
              rw [if_pos (by rfl)]
              go_simp
              exact hK _ _ (Only.refl _ _) rfl
            · intro a W L N hR hold hφ hcl hkp hd K hK
              have e94 := got hφ (hd 47 (by kernel_rfl)) rfl rfl rfl
              clear hold hφ hcl hkp hd
              rw [if_pos (by rfl)]
              go_simp
              exact hK _ _ (Only.refl _ _) rfl
            · intro a W L N hR hold hφ hcl hkp hd K hK
              have e0 := hold 0 (by kernel_rfl)
              have e95 := got hφ (hd 48 (by kernel_rfl)) rfl rfl rfl
              clear hold hφ hcl hkp hd
              rw [if_pos (by simp [Region.wanted, yielded, e95])]
              go_simp
              exact hK _ _ (Only.refl _ _) rfl
            · intro a W L N hR hold hφ hcl hkp hd K hK
              have e1 := hold 1 (by kernel_rfl)
              have e95 := got hφ (hd 48 (by kernel_rfl)) rfl rfl rfl
              clear hold hφ hcl hkp hd
              rw [if_pos (by simp [Region.wanted, yielded, e95])]
              go_simp
              exact hK _ _ (Only.refl _ _) rfl
            · intro a W L N hR hold hφ hcl hkp hd K hK
              have e5 := hold 5 (by kernel_rfl)
              have e95 := got hφ (hd 48 (by kernel_rfl)) rfl rfl rfl
              clear hold hφ hcl hkp hd
              rw [if_pos (by simp [Region.wanted, yielded, e95])]
              go_simp
              exact hK _ _ (Only.refl _ _) rfl
            · intro a W L N hR hold hφ hcl hkp hd K hK
              have e97 := got hφ (hd 50 (by kernel_rfl)) rfl rfl rfl
              have e98 := got hφ (hd 51 (by kernel_rfl)) rfl rfl rfl
              have e95 := got hφ (hd 48 (by kernel_rfl)) rfl rfl rfl
              clear hold hφ hcl hkp hd
              rw [if_pos (by simp [Region.wanted, yielded, e95])]
              go_simp
              exact hK _ _ (Only.refl _ _) rfl
            · intro a W L N hR hold hφ hcl hkp hd K hK
              have e99 := got hφ (hd 52 (by kernel_rfl)) rfl rfl rfl
              have e95 := got hφ (hd 48 (by kernel_rfl)) rfl rfl rfl
              clear hold hφ hcl hkp hd
              rw [if_pos (by simp [Region.wanted, yielded, e95])]
              go_simp
              exact hK _ _ (Only.refl _ _) rfl
            · intro a W L N hR hold hφ hcl hkp hd K hK
              have e100 := got hφ (hd 53 (by kernel_rfl)) rfl rfl rfl
              have e95 := got hφ (hd 48 (by kernel_rfl)) rfl rfl rfl
              obtain ⟨l0, l1, l2, l3, l4, l5⟩ := Hcl.out W (Only.plus HO1.out.drew hR)
              clear hold hφ hcl hkp hd
              rw [if_pos (by simp [Region.wanted, yielded, e95])]
              go_simp
              exact hK _ _ (Only.refl _ _) rfl
            · intro a W L N hR hold hφ hcl hkp hd K hK
              have e96 := got hφ (hd 49 (by kernel_rfl)) rfl rfl rfl
              have e101 := got hφ (hd 54 (by kernel_rfl)) rfl rfl rfl
              have e95 := got hφ (hd 48 (by kernel_rfl)) rfl rfl rfl
              have hW := Only.plus HO1.out.drew hR
              clear hold hφ hcl hkp hd
              rw [if_pos (by simp [Region.wanted, yielded, e95])]
              go_simp
              refine (HRB.out W hW).mono ?_
              rintro e w' ⟨rfl, hO'⟩
              exact hK _ _ hO' rfl
            · intro a W L N hR hold hφ hcl hkp hd K hK
              have e102 := got hφ (hd 55 (by kernel_rfl)) rfl rfl rfl
              have e95 := got hφ (hd 48 (by kernel_rfl)) rfl rfl rfl
              clear hold hφ hcl hkp hd
              rw [if_pos (by simp [Region.wanted, yielded, e95])]
              go_simp
              exact hK _ _ (Only.refl _ _) rfl
            · intro a W L N hR hold hφ hcl hkp hd K hK
              have e95 := got hφ (hd 48 (by kernel_rfl)) rfl rfl rfl
              have e103 := got hφ (hd 56 (by kernel_rfl)) rfl rfl rfl
              clear hold hφ hcl hkp hd
              rw [if_pos (by rfl)]
              go_simp
              exact hK _ _ (Only.refl _ _) rfl
            · intro a W L N hR hold hφ hcl hkp hd K hK
              have e104 := got hφ (hd 57 (by kernel_rfl)) rfl rfl rfl
              clear hold hφ hcl hkp hd
              rw [if_pos (by rfl)]
              go_simp
              exact hK _ _ (Only.refl _ _) rfl
            · intro a W L N hR hold hφ hcl hkp hd K hK
              have e5 := hold 5 (by kernel_rfl)
              have e105 := got hφ (hd 58 (by kernel_rfl)) rfl rfl rfl
              clear hold hφ hcl hkp hd
              rw [if_pos (by simp [Region.wanted, yielded, e105])]
              go_simp
              exact hK _ _ (Only.refl _ _) rfl
            · intro a W L N hR hold hφ hcl hkp hd K hK
              have e106 := got hφ (hd 59 (by kernel_rfl)) rfl rfl rfl
              have e105 := got hφ (hd 58 (by kernel_rfl)) rfl rfl rfl
              clear hold hφ hcl hkp hd
              rw [if_pos (by simp [Region.wanted, yielded, e105])]
              go_simp
              exact hK _ _ (Only.refl _ _) rfl
            · intro a W L N hR hold hφ hcl hkp hd K hK
              have e107 := got hφ (hd 60 (by kernel_rfl)) rfl rfl rfl
              have e105 := got hφ (hd 58 (by kernel_rfl)) rfl rfl rfl
              clear hold hφ hcl hkp hd
              rw [if_pos (by simp [Region.wanted, yielded, e105])]
              go_simp
              exact hK _ _ (Only.refl _ _) rfl
            · intro a W L N hR hold hφ hcl hkp hd K hK
              have e1 := hold 1 (by kernel_rfl)
              have e108 := got hφ (hd 61 (by kernel_rfl)) rfl rfl rfl
              clear hold hφ hcl hkp hd
              rw [if_pos (by simp [Region.wanted, yielded, e108])]
              go_simp
              exact hK _ _ (Only.refl _ _) rfl
            · intro a W L N hR hold hφ hcl hkp hd K hK
              have e5 := hold 5 (by kernel_rfl)
              have e108 := got hφ (hd 61 (by kernel_rfl)) rfl rfl rfl
              clear hold hφ hcl hkp hd
              rw [if_pos (by simp [Region.wanted, yielded, e108])]
              go_simp
              exact hK _ _ (Only.refl _ _) rfl
            · intro a W L N hR hold hφ hcl hkp hd K hK
              have e110 := got hφ (hd 63 (by kernel_rfl)) rfl rfl rfl
              have e108 := got hφ (hd 61 (by kernel_rfl)) rfl rfl rfl
              clear hold hφ hcl hkp hd
              rw [if_pos (by simp [Region.wanted, yielded, e108])]
              go_simp
              exact hK _ _ (Only.refl _ _) rfl
            · intro a W L N hR hold hφ hcl hkp hd K hK
              have e109 := got hφ (hd 62 (by kernel_rfl)) rfl rfl rfl
              have e111 := got hφ (hd 64 (by kernel_rfl)) rfl rfl rfl
              have e108 := got hφ (hd 61 (by kernel_rfl)) rfl rfl rfl
              clear hold hφ hcl hkp hd
              rw [if_pos (by simp [Region.wanted, yielded, e108])]
              go_simp
              exact hK _ _ (Only.refl _ _) rfl
            · intro a W L N hR hold hφ hcl hkp hd K hK
              have e112 := got hφ (hd 65 (by kernel_rfl)) rfl rfl rfl
              have e108 := got hφ (hd 61 (by kernel_rfl)) rfl rfl rfl
              clear hold hφ hcl hkp hd
              rw [if_pos (by simp [Region.wanted, yielded, e108])]
              go_simp
              exact hK _ _ (Only.refl _ _) rfl
            · intro a W L N hR hold hφ hcl hkp hd K hK
              have e113 := got hφ (hd 66 (by kernel_rfl)) rfl rfl rfl
              have e108 := got hφ (hd 61 (by kernel_rfl)) rfl rfl rfl
              have lp := Hpc.out W (Only.plus HO1.out.drew hR)
              clear hold hφ hcl hkp hd
              rw [if_pos (by simp [Region.wanted, yielded, e108])]
              go_simp
              exact hK _ _ (Only.refl _ _) rfl
            · intro a W L N hR hold hφ hcl hkp hd K hK
              have e1 := hold 1 (by kernel_rfl)
              have e108 := got hφ (hd 61 (by kernel_rfl)) rfl rfl rfl
              clear hold hφ hcl hkp hd
              rw [if_pos (by simp [Region.wanted, yielded, e108])]
              go_simp
              exact hK _ _ (Only.refl _ _) rfl
            · intro a W L N hR hold hφ hcl hkp hd K hK
              have e5 := hold 5 (by kernel_rfl)
              have e108 := got hφ (hd 61 (by kernel_rfl)) rfl rfl rfl
              clear hold hφ hcl hkp hd
              rw [if_pos (by simp [Region.wanted, yielded, e108])]
              go_simp
              exact hK _ _ (Only.refl _ _) rfl
            · intro a W L N hR hold hφ hcl hkp hd K hK
              have e115 := got hφ (hd 68 (by kernel_rfl)) rfl rfl rfl
              have e116 := got hφ (hd 69 (by kernel_rfl)) rfl rfl rfl
              have e108 := got hφ (hd 61 (by kernel_rfl)) rfl rfl rfl
              clear hold hφ hcl hkp hd
              rw [if_pos (by simp [Region.wanted, yielded, e108])]
              go_simp
              exact hK _ _ (Only.refl _ _) rfl
            · intro a W L N hR hold hφ hcl hkp hd K hK
              have e117 := got hφ (hd 70 (by kernel_rfl)) rfl rfl rfl
              have e108 := got hφ (hd 61 (by kernel_rfl)) rfl rfl rfl
              clear hold hφ hcl hkp hd
              rw [if_pos (by simp [Region.wanted, yielded, e108])]
              go_simp
              exact hK _ _ (Only.refl _ _) rfl
            · intro a W L N hR hold hφ hcl hkp hd K hK
              have e118 := got hφ (hd 71 (by kernel_rfl)) rfl rfl rfl
              have e108 := got hφ (hd 61 (by kernel_rfl)) rfl rfl rfl
              obtain ⟨l0, l1, l2, l3, l4, l5⟩ := Hcl.out W (Only.plus HO1.out.drew hR)
              clear hold hφ hcl hkp hd
              rw [if_pos (by simp [Region.wanted, yielded, e108])]
              go_simp
              exact hK _ _ (Only.refl _ _) rfl
            · intro a W L N hR hold hφ hcl hkp hd K hK
              have e114 := got hφ (hd 67 (by kernel_rfl)) rfl rfl rfl
              have e119 := got hφ (hd 72 (by kernel_rfl)) rfl rfl rfl
              have e108 := got hφ (hd 61 (by kernel_rfl)) rfl rfl rfl
              clear hold hφ hcl hkp hd
              rw [if_pos (by simp [Region.wanted, yielded, e108])]
              go_simp
              exact hK _ _ (Only.refl _ _) rfl
            · intro a W L N hR hold hφ hcl hkp hd K hK
              have e108 := got hφ (hd 61 (by kernel_rfl)) rfl rfl rfl
              have e120 := got hφ (hd 73 (by kernel_rfl)) rfl rfl rfl
              have e105 := got hφ (hd 58 (by kernel_rfl)) rfl rfl rfl
              clear hold hφ hcl hkp hd
              rw [if_pos (by simp [Region.wanted, yielded, e105])]
              go_simp
              exact hK _ _ (Only.refl _ _) rfl
            · intro a W L N hR hold hφ hcl hkp hd K hK
              have e105 := got hφ (hd 58 (by kernel_rfl)) rfl rfl rfl
              have e121 := got hφ (hd 74 (by kernel_rfl)) rfl rfl rfl
              clear hold hφ hcl hkp hd
              rw [if_pos (by rfl)]
              go_simp
              exact hK _ _ (Only.refl _ _) rfl
          · intro us W hO' hus
            have p75 : us 75 = .bool false := hus 75 _ 122 (by omega) rfl rfl
            clear hus
            simp only [List.take_succ_cons, List.take_zero, List.drop_succ_cons, List.drop_zero, fillAct, Act.put, List.setIfInBounds_toArray, List.set_cons_zero, List.set_cons_succ, Nat.reduceAdd, p75]
            clear p75
            have HO4 := Lib.hid (Only.plus HO1.out.drew hO')
            clear hO'
            go_wp2_with fail
            go_meet
            exact HO4.out
      case rest =>
        have HOx := Lib.hid hcut
        go_wp2
        rw [← hag]
        go_roundg rr.len
        case measure => simp only [Blk.len] at hgk; omega
        case rel =>
          refine ⟨j + 1, pl + 1, rr, xr', fr', by go_num, by simp only [Blk.len] at hjl; omega, Nat.le_refl _, hcc.2.2, Hsr, HE.out, fun h => ⟨g, hag, hg, fun i u hu => ?_, fun _ => ⟨pl, by rw [Nat.add_sub_cancel]; exact hrx1.out, rfl⟩⟩, HO.out.plus HOx.out⟩
          have := hrx2.out i u hu
          rw [show (j + 1) * 5 + i = j * 5 + (i + 5) by omega]
          exact this

theorem stands_any (s : List UInt8) (hsl : s.length ≤ 100000) : ∀ (N : Nat) (b : Blk), b.cnt ≤ N → N ≤ 100000 → ∀ (w : World) (v : Value) (fp : List Nat), BlkAt w v b fp → standsB s 0 b →
      Calls Try.prog 27 #[.string ⟨s.toArray⟩, v] w fun e w' => e = .returned (.bool true) ∧ Only [] w w'
  | 0, b, hN, h2, w, v, fp, h, hs => stands_walk s hsl 0 (fun b h => absurd h (by omega)) b hN h2 w v fp h hs
  | N + 1, b, hN, h2, w, v, fp, h, hs => stands_walk s hsl (N + 1) (fun b h => stands_any s hsl N b (by omega) (by omega)) b hN h2 w v fp h hs

end Go.Proofs.Ytonpfmhdefhhmaa
