/-
  The walk of the law LexBlanks: it returns true, whatever its arguments are, and turns nothing that was there.
-/
import Derived.Test.YtdneaecahogmhaaLxI
import Derived.Test.YtdneaecahogmhaaLxK
import Derived.Deep.RegionHeld3
import Derived.Deep.CutBlock
import Derived.Deep.CutRange
import Derived.Deep.DeepCutAuto
import Derived.IntWalk
namespace Go.Proofs.Ytdneaecahogmhaa
set_option maxRecDepth 100000
set_option linter.unusedVariables false
open Go.RowKit Go.Sort

def sepT : List (List UInt8) := [[32], [10], [9], [32, 32, 10]]
def wordT : List (List UInt8) := [[123], [125], [120], [102, 117, 110, 99], [97, 49]]
def sepAt (bs : List Int) (j : Nat) : List UInt8 := sepT.getD (inM (bs.getD j 0) 4) []
def wordAt (ns : List Int) (j : Nat) : List UInt8 := wordT.getD (inM (ns.getD j 0) 5) []
def onesP (ns : List Int) (k : Nat) : List (List UInt8 × List UInt8) := (List.range k).map fun j => ([32], wordAt ns j)
def sepsP (ns bs : List Int) (k : Nat) : List (List UInt8 × List UInt8) := (List.range k).map fun j => (sepAt bs j, wordAt ns j)
theorem sep_ok (bs : List Int) (j : Nat) : SepOk (sepAt bs j) ∧ (sepAt bs j).length ≤ 3 := by
  have h : inM (bs.getD j 0) 4 < 4 := inM_lt _ 4 (by omega)
  unfold sepAt
  generalize inM (bs.getD j 0) 4 = k at *
  match k, h with
  | 0, _ => exact ⟨⟨by decide, by decide⟩, by decide⟩
  | 1, _ => exact ⟨⟨by decide, by decide⟩, by decide⟩
  | 2, _ => exact ⟨⟨by decide, by decide⟩, by decide⟩
  | 3, _ => exact ⟨⟨by decide, by decide⟩, by decide⟩
theorem word_ok (ns : List Int) (j : Nat) : WordOk (wordAt ns j) ∧ (wordAt ns j).length ≤ 4 := by
  have h : inM (ns.getD j 0) 5 < 5 := inM_lt _ 5 (by omega)
  unfold wordAt
  generalize inM (ns.getD j 0) 5 = k at *
  match k, h with
  | 0, _ => exact ⟨.inl rfl, by decide⟩
  | 1, _ => exact ⟨.inr (.inl rfl), by decide⟩
  | 2, _ => exact ⟨.inr (.inr ⟨120, [], rfl, by decide, by decide⟩), by decide⟩
  | 3, _ => exact ⟨.inr (.inr ⟨102, [117, 110, 99], rfl, by decide, by decide⟩), by decide⟩
  | 4, _ => exact ⟨.inr (.inr ⟨97, [49], rfl, by decide, by decide⟩), by decide⟩
theorem ones_succ (ns : List Int) (k : Nat) : flatP (onesP ns (k + 1)) = flatP (onesP ns k) ++ [32] ++ wordAt ns k := by simp [onesP, flatP, List.range_succ]
theorem seps_succ (ns bs : List Int) (k : Nat) : flatP (sepsP ns bs (k + 1)) = flatP (sepsP ns bs k) ++ sepAt bs k ++ wordAt ns k := by simp [sepsP, flatP, List.range_succ]
theorem ones_len (ns : List Int) : ∀ k, (flatP (onesP ns k)).length ≤ 5 * k
  | 0 => by simp [onesP, flatP]
  | k + 1 => by
    have h1 := ones_len ns k
    have h2 := (word_ok ns k).2
    rw [ones_succ, List.length_append, List.length_append, List.length_cons, List.length_nil]
    omega
theorem seps_len (ns bs : List Int) : ∀ k, (flatP (sepsP ns bs k)).length ≤ 7 * k
  | 0 => by simp [sepsP, flatP]
  | k + 1 => by
    have h1 := seps_len ns bs k
    have h2 := (word_ok ns k).2
    have h3 := (sep_ok bs k).2
    rw [seps_succ, List.length_append, List.length_append]
    omega
theorem blanks_same (ns bs : List Int) (k : Nat) (hk : k ≤ 40) : ∃ l m, tokM (flatP (onesP ns k)) = (l, 0, 0) ∧ tokM (flatP (sepsP ns bs k)) = (m, 0, 0) ∧ l.map (fun t => (t.kind, t.s)) = m.map (fun t => (t.kind, t.s)) ∧ l.length = k := by
  obtain ⟨l, h1, h2⟩ := tokM_flat (onesP ns k) (fun p hp => by
    simp only [onesP, List.mem_map] at hp
    obtain ⟨j, _, rfl⟩ := hp
    exact ⟨⟨by simp, by show ([32] : List UInt8).all blankB = true; decide⟩, (word_ok ns j).1⟩) (by have := ones_len ns k; omega)
  obtain ⟨m, h3, h4⟩ := tokM_flat (sepsP ns bs k) (fun p hp => by
    simp only [sepsP, List.mem_map] at hp
    obtain ⟨j, _, rfl⟩ := hp
    exact ⟨(sep_ok bs j).1, (word_ok ns j).1⟩) (by have := seps_len ns bs k; omega)
  refine ⟨l, m, h1, h3, ?_, ?_⟩
  · rw [h2, h4]; simp [onesP, sepsP]
  · have := congrArg List.length h2
    simpa [onesP] using this
theorem a1_name : nameM [97, 49] = true := by decide
/-- Two rows with the same kinds and texts. -/
theorem same_kt {l m : List Tok} (h : l.map (fun t => (t.kind, t.s)) = m.map (fun t => (t.kind, t.s))) : l.length = m.length ∧ ∀ (j : Nat) (h1 : j < l.length) (h2 : j < m.length), l[j].kind = m[j].kind ∧ l[j].s = m[j].s := by
  refine ⟨by simpa using congrArg List.length h, fun j h1 h2 => ?_⟩
  have := congrArg (·[j]?) h
  simp [h1, h2] at this
  exact this

set_option maxHeartbeats 16000000 in
theorem blanks_walk (a : Option Addr) (len cap : Nat) (ns : List Int) (ab : Option Addr) (blen bcap : Nat) (bs : List Int) (w : World) (h : IntsArg w a len ns) (hB : IntsArg w ab blen bs) :
    Calls Try.prog 7 #[.slice a len cap, .slice ab blen bcap] w fun e w' => e = .returned (.bool true) ∧ Only [] w w' := by
  have hl := h.2
  have hbl := hB.2
  unfold maxLen at hl hbl
  have H := Lib.hid h.1
  have HB := Lib.hid hB.1
  obtain rfl := h.1.1
  obtain rfl := hB.1.1
  clear h hB
  go_enter Try.func7, Try.ntmps7
  go_wp2_with fail
  refine (known5_any _).mono ?_
  rintro e w0 ⟨rfl, hO0⟩
  have HO0 := Lib.hid hO0
  clear hO0
  go_wp2_with fail
  go_loopw [5, 6, 7] (fun s t i wr => ∃ k : Nat, k ≤ ns.length ∧ k ≤ 40 ∧ i = .int .i64 k ∧ s = .string ⟨(flatP (onesP ns k)).toArray⟩ ∧ t = .string ⟨(flatP (sepsP ns bs k)).toArray⟩ ∧ Only [] w wr) (fun _ _ i _ => ns.length - (intOf i).toNat)
  case atStart => exact ⟨0, by omega, by omega, rfl, rfl, rfl, HO0.out⟩
  case round =>
    obtain ⟨k, hk, hk2, rfl, rfl, rfl, hO⟩ := hrel
    have HO := Lib.hid hO
    clear hO
    by_cases hlt : k < ns.length ∧ k < 40
    · have hlti : (k : Int) < (ns.length : Int) := by omega
      have h40i : (k : Int) < 40 := by omega
      obtain ⟨b, o, rfl, hb, hc⟩ := (H.out.more HO.out).2 (by omega)
      have c0 := hc k _ (List.getElem?_eq_getElem hlt.1)
      have Hs1 := Lib.hid (ones_succ ns k)
      have Hs2 := Lib.hid (seps_succ ns bs k)
      have hw1 : Hid (wordAt ns k = wordT.getD (inM ns[k] 5) []) := Lib.hid (by unfold wordAt; simp [hlt.1])
      have hwl := (word_ok ns k).2
      have hsl := (sep_ok bs k).2
      have hl1 := ones_len ns k
      have hl2 := seps_len ns bs k
      generalize flatP (onesP ns k) = S at *
      generalize flatP (sepsP ns bs k) = T at *
      generalize ns[k] = z at *
      have hO1 := (Only.refl [] wr).alloc (.cells #[.string ⟨#[123]⟩, .string ⟨#[125]⟩, .string ⟨#[120]⟩, .string ⟨#[102, 117, 110, 99]⟩, .string ⟨#[97, 49]⟩] 9)
      have hq := IsBlk.made wr (.cells #[.string ⟨#[123]⟩, .string ⟨#[125]⟩, .string ⟨#[120]⟩, .string ⟨#[102, 117, 110, 99]⟩, .string ⟨#[97, 49]⟩] 9)
      have hcT : (wr.alloc (.cells #[.string ⟨#[123]⟩, .string ⟨#[125]⟩, .string ⟨#[120]⟩, .string ⟨#[102, 117, 110, 99]⟩, .string ⟨#[97, 49]⟩] 9)).cell? ⟨wr.heap.size, inM z 5, none⟩ = some (.string ⟨(wordT.getD (inM z 5) []).toArray⟩) := table_cell wordT hq (inM z 5) (inM_lt z 5 (by omega))
      rw [← hw1.out] at hcT
      have hcz : (wr.alloc (.cells #[.string ⟨#[123]⟩, .string ⟨#[125]⟩, .string ⟨#[120]⟩, .string ⟨#[102, 117, 110, 99]⟩, .string ⟨#[97, 49]⟩] 9)).cell? ⟨b, o + k, none⟩ = some (.int .i64 z) := (hO1.cell (p := ⟨b, o + k, none⟩) hb (by simp)).trans c0
      have hiz := inM_lti z 5 (by omega)
      have HO1 := Lib.hid (HO.out.plus hO1)
      clear hO1 hq hc c0 hw1
      generalize hwd : wordAt ns k = wd at *
      clear hwd
      go_upto_if 40 with (refine (within5_to _ z 5 (by omega) (by omega)).mono ?_; rintro e w' ⟨rfl, rfl⟩; rw [show (5 : Int).toNat = 5 from rfl])
      generalize hw1 : wr.alloc (.cells #[.string ⟨#[123]⟩, .string ⟨#[125]⟩, .string ⟨#[120]⟩, .string ⟨#[102, 117, 110, 99]⟩, .string ⟨#[97, 49]⟩] 9) = w1 at *
      clear hcT hcz hw1
      go_cut [9] (fun s9 wx => ∃ kk : Int, s9 = .int .i64 kk ∧ Hid (kk = bs.getD k 0) ∧ w1 = wx)
      case first =>
        by_cases hjn : k < bs.length
        · have hjni : (k : Int) < (bs.length : Int) := by omega
          obtain ⟨nb, no, rfl, hnb, hnc⟩ := (HB.out.more HO1.out).2 (by omega)
          have n0 := hnc k _ (List.getElem?_eq_getElem hjn)
          go_wp2_with fail
          go_meet
          exact ⟨_, rfl, Lib.hid (by rw [List.getD_eq_getElem?_getD, List.getElem?_eq_getElem hjn]; rfl), rfl⟩
        · have hjni : ¬ (k : Int) < (bs.length : Int) := by omega
          go_wp2_with fail
          go_meet
          exact ⟨_, rfl, Lib.hid (by rw [List.getD_eq_getElem?_getD, List.getElem?_eq_none (by omega)]; rfl), rfl⟩
      case rest =>
        obtain ⟨kk, rfl, hkk, rfl⟩ := hcut
        go_upto_region 11 with fail
        have hsp : sepAt bs k = sepT.getD (inM kk 4) [] := by unfold sepAt; rw [hkk.out]
        have Hsp : Hid (∀ (W : World) (g : Nat), IsBlk W g (.cells #[.string ⟨#[32]⟩, .string ⟨#[10]⟩, .string ⟨#[9]⟩, .string ⟨#[32, 32, 10]⟩] 9) → W.cell? ⟨g, inM kk 4, none⟩ = some (.string ⟨(sepAt bs k).toArray⟩)) := Lib.hid (fun W g h => by rw [hsp]; exact table_cell sepT h (inM kk 4) (inM_lt kk 4 (by omega)))
        have Hi4 : Hid ((inM kk 4 : Int) < 4) := Lib.hid (inM_lti kk 4 (by omega))
        clear hsp hkk
        generalize sepAt bs k = sp at *
        have happ1 : Hid ((⟨S.toArray⟩ : ByteArray) ++ ⟨#[32]⟩ = ⟨(S ++ [32]).toArray⟩) := Lib.hid (append_list S [32])
        have happ2 : Hid ((⟨(S ++ [32]).toArray⟩ : ByteArray) ++ ⟨wd.toArray⟩ = ⟨(S ++ 32 :: wd).toArray⟩) := Lib.hid (by rw [append_list, List.append_assoc]; rfl)
        have happ3 : Hid ((⟨T.toArray⟩ : ByteArray) ++ ⟨sp.toArray⟩ = ⟨(T ++ sp).toArray⟩) := Lib.hid (append_list _ _)
        have happ4 : Hid ((⟨(T ++ sp).toArray⟩ : ByteArray) ++ ⟨wd.toArray⟩ = ⟨(T ++ (sp ++ wd)).toArray⟩) := Lib.hid (by rw [append_list, List.append_assoc])
        have HlS : Hid (¬ 9223372036854775807 < S.length + 1 ∧ ¬ 9223372036854775807 < S.length + 1 + wd.length ∧ ¬ 9223372036854775807 < T.length + sp.length ∧ ¬ 9223372036854775807 < T.length + sp.length + wd.length) := Lib.hid ⟨by omega, by omega, by omega, by omega⟩
        refine wp_region_stabL (P := Try.prog) 15 (by kernel_rfl) (by kernel_rfl) (Only []) (Only.refl _ _) (fun _ _ _ h k => h.then k [] (by simp) (by simp))
          [SP.is (.string ⟨S.toArray⟩),
           SP.is (.string ⟨(S ++ [32]).toArray⟩),
           SP.is (.string ⟨wd.toArray⟩),
           SP.is (.string ⟨(S ++ 32 :: wd).toArray⟩),
           SP.is (.string ⟨T.toArray⟩),
           ⟨fun v W => ∃ g, v = .slice (some ⟨g, 0, none⟩) 4 4 ∧ IsBlk W g (.cells #[.string ⟨#[32]⟩, .string ⟨#[10]⟩, .string ⟨#[9]⟩, .string ⟨#[32, 32, 10]⟩] 9), fun _ _ _ ⟨g, e, h⟩ hO => ⟨g, e, h.only hO (by simp)⟩⟩,
           SP.is (.int .i64 kk),
           SP.is (.int .i64 (inM kk 4)),
           ⟨fun v W => ∃ g, v = .pointer (some ⟨g, inM kk 4, none⟩) ∧ IsBlk W g (.cells #[.string ⟨#[32]⟩, .string ⟨#[10]⟩, .string ⟨#[9]⟩, .string ⟨#[32, 32, 10]⟩] 9), fun _ _ _ ⟨g, e, h⟩ hO => ⟨g, e, h.only hO (by simp)⟩⟩,
           SP.is (.string ⟨sp.toArray⟩),
           SP.is (.string ⟨(T ++ sp).toArray⟩),
           SP.is (.string ⟨wd.toArray⟩),
           SP.is (.string ⟨(T ++ (sp ++ wd)).toArray⟩),
           SP.is (.string ⟨(S ++ 32 :: wd).toArray⟩),
           SP.is (.string ⟨(T ++ (sp ++ wd)).toArray⟩)] ?_ ?_
        · simp only [List.take_succ_cons, List.take_zero]
          refine StepsOK.cons ?_ (StepsOK.cons ?_ (StepsOK.cons ?_ (StepsOK.cons ?_ (StepsOK.cons ?_ (StepsOK.cons ?_ (StepsOK.cons ?_ (StepsOK.cons ?_ (StepsOK.cons ?_ (StepsOK.cons ?_ (StepsOK.cons ?_ (StepsOK.cons ?_ (StepsOK.cons ?_ (StepsOK.cons ?_ (StepsOK.cons ?_ StepsOK.nil))))))))))))))
          · intro a W L N hR hold hφ hcl hkp hd K hK
            have e5 := yetOld hcl 5 13 (by kernel_rfl) (by kernel_rfl)
            clear hold hφ hcl hkp hd
            rw [if_pos (by rfl)]
            go_simp
            exact hK _ _ (Only.refl _ _) rfl
          · intro a W L N hR hold hφ hcl hkp hd K hK
            have e45 := got hφ (hd 0 (by kernel_rfl)) rfl rfl rfl
            clear hold hφ hcl hkp hd
            rw [if_pos (by rfl)]
            have happ := happ1.out
            have hlS := HlS.out.1
            go_simp
            exact hK _ _ (Only.refl _ _) rfl
          · intro a W L N hR hold hφ hcl hkp hd K hK
            have e8 := hold 8 (by kernel_rfl)
            clear hold hφ hcl hkp hd
            rw [if_pos (by rfl)]
            go_simp
            exact hK _ _ (Only.refl _ _) rfl
          · intro a W L N hR hold hφ hcl hkp hd K hK
            have e46 := got hφ (hd 1 (by kernel_rfl)) rfl rfl rfl
            have e47 := got hφ (hd 2 (by kernel_rfl)) rfl rfl rfl
            clear hold hφ hcl hkp hd
            rw [if_pos (by rfl)]
            have happ := happ2.out
            have hlS := HlS.out.2.1
            go_simp
            exact hK _ _ (Only.refl _ _) rfl
          · intro a W L N hR hold hφ hcl hkp hd K hK
            have e6 := yetOld hcl 6 14 (by kernel_rfl) (by kernel_rfl)
            clear hold hφ hcl hkp hd
            rw [if_pos (by rfl)]
            go_simp
            exact hK _ _ (Only.refl _ _) rfl
          · intro a W L N hR hold hφ hcl hkp hd K hK
            clear hold hφ hcl hkp hd
            rw [if_pos (by rfl)]
            go_simp
            exact hK _ _ ((Only.refl _ _).alloc _) ⟨_, rfl, IsBlk.made W _⟩
          · intro a W L N hR hold hφ hcl hkp hd K hK
            have e9 := hold 9 (by kernel_rfl)
            clear hold hφ hcl hkp hd
            rw [if_pos (by rfl)]
            go_simp
            exact hK _ _ (Only.refl _ _) rfl
          · intro a W L N hR hold hφ hcl hkp hd K hK
            have e51 := got hφ (hd 6 (by kernel_rfl)) rfl rfl rfl
            clear hold hφ hcl hkp hd
            rw [if_pos (by rfl)]
            go_simp
            refine (within5_to W kk 4 (by omega) (by omega)).mono ?_
            rintro e w' ⟨rfl, rfl⟩
            exact hK _ _ (Only.refl _ _) rfl
          · intro a W L N hR hold hφ hcl hkp hd K hK
            have e52 := got hφ (hd 7 (by kernel_rfl)) rfl rfl rfl
            obtain ⟨u50, e50, g50, p50, s50⟩ := gotP hφ (hd 5 (by kernel_rfl)) rfl rfl rfl
            have p50 : u50 = .slice (some ⟨g50, 0, none⟩) 4 4 := p50
            subst p50
            clear hold hφ hcl hkp hd
            rw [if_pos (by rfl)]
            have hi4 := Hi4.out
            go_simp
            exact hK _ _ (Only.refl _ _) ⟨g50, rfl, s50⟩
          · intro a W L N hR hold hφ hcl hkp hd K hK
            obtain ⟨u53, e53, g53, p53, s53⟩ := gotP hφ (hd 8 (by kernel_rfl)) rfl rfl rfl
            have p53 : u53 = .pointer (some ⟨g53, inM kk 4, none⟩) := p53
            subst p53
            have hld : W.cell? ⟨g53, inM kk 4, none⟩ = some (.string ⟨sp.toArray⟩) := Hsp.out W g53 s53
            clear hold hφ hcl hkp hd
            rw [if_pos (by rfl)]
            go_simp
            exact hK _ _ (Only.refl _ _) rfl
          · intro a W L N hR hold hφ hcl hkp hd K hK
            have e49 := got hφ (hd 4 (by kernel_rfl)) rfl rfl rfl
            have e54 := got hφ (hd 9 (by kernel_rfl)) rfl rfl rfl
            clear hold hφ hcl hkp hd
            rw [if_pos (by rfl)]
            have happ := happ3.out
            have hlS := HlS.out.2.2.1
            go_simp
            exact hK _ _ (Only.refl _ _) rfl
          · intro a W L N hR hold hφ hcl hkp hd K hK
            have e8 := hold 8 (by kernel_rfl)
            clear hold hφ hcl hkp hd
            rw [if_pos (by rfl)]
            go_simp
            exact hK _ _ (Only.refl _ _) rfl
          · intro a W L N hR hold hφ hcl hkp hd K hK
            have e55 := got hφ (hd 10 (by kernel_rfl)) rfl rfl rfl
            have e56 := got hφ (hd 11 (by kernel_rfl)) rfl rfl rfl
            clear hold hφ hcl hkp hd
            rw [if_pos (by rfl)]
            have happ := happ4.out
            have hlS := HlS.out.2.2.2
            go_simp
            exact hK _ _ (Only.refl _ _) rfl
          · intro a W L N hR hold hφ hcl hkp hd K hK
            have e48 := got hφ (hd 3 (by kernel_rfl)) rfl rfl rfl
            clear hold hφ hcl hkp hd
            rw [if_pos (by rfl)]
            go_simp
            exact hK _ _ (Only.refl _ _) rfl
          · intro a W L N hR hold hφ hcl hkp hd K hK
            have e57 := got hφ (hd 12 (by kernel_rfl)) rfl rfl rfl
            clear hold hφ hcl hkp hd
            rw [if_pos (by rfl)]
            go_simp
            exact hK _ _ (Only.refl _ _) rfl
        · intro us W hO' hus
          have p3 : us 13 = .string ⟨(S ++ 32 :: wd).toArray⟩ := hus 13 _ 5 (by omega) rfl rfl
          have p12 : us 14 = .string ⟨(T ++ (sp ++ wd)).toArray⟩ := hus 14 _ 6 (by omega) rfl rfl
          clear hus
          simp only [List.take_succ_cons, List.take_zero, List.drop_succ_cons, List.drop_zero, fillAct, Act.put, List.setIfInBounds_toArray, List.set_cons_zero, List.set_cons_succ, Nat.reduceAdd, p3, p12]
          clear p3 p12
          have HO2 := Lib.hid (HO1.out.plus (((Only.refl [] w1).drew).plus hO'))
          clear hO'
          go_wp2
          go_roundw
          case rel => exact ⟨k + 1, by omega, by omega, by go_num, by rw [Hs1.out, List.append_assoc]; rfl, by rw [Hs2.out, List.append_assoc], HO2.out⟩
          case measure => simp [intOf]; omega
    · have hkm : Hid (k = min ns.length 40) := Lib.hid (by omega)
      obtain ⟨l, m, e1, e2, hkt, hlk⟩ := blanks_same ns bs k hk2
      obtain ⟨hlm, hsame⟩ := same_kt hkt
      have He1 := Lib.hid e1
      have He2 := Lib.hid e2
      have Hsame := Lib.hid hsame
      have hl1 := ones_len ns k
      have hl2 := seps_len ns bs k
      clear e1 e2 hkt hsame
      generalize flatP (onesP ns k) = S at *
      generalize flatP (sepsP ns bs k) = T at *
      by_cases hlt1 : (k : Int) < (ns.length : Int)
      · have hlt2 : ¬ (k : Int) < 40 := by omega
        clear hlt
        go_wp2_with fail
        refine (tokens_any _ S (by omega)).mono ?_
        rintro e w5 ⟨v5, rfl, hv5, hO5⟩
        rw [He1.out] at hv5 ⊢
        obtain ⟨a5, c5, rfl, ht5⟩ := hv5.toks
        have Ht5 := Lib.hid ht5
        have HO5 := Lib.hid (HO.out.plus hO5)
        clear hv5 ht5 hO5
        go_wp2_with fail
        refine (tokens_any _ T (by omega)).mono ?_
        rintro e w6 ⟨v6, rfl, hv6, hO6⟩
        rw [He2.out] at hv6 ⊢
        obtain ⟨a6, c6, rfl, ht6⟩ := hv6.toks
        have Ht6 := Lib.hid ht6
        have Ht56 := Lib.hid (Ht5.out.more hO6)
        have HO6 := Lib.hid (HO5.out.plus hO6)
        clear hv6 ht6 hO6
        have hlmi : (l.length : Int) = (m.length : Int) := by omega
        have Hlm := Lib.hid hlm
        have hl40 : l.length ≤ 40 := by omega
        clear hlm
        go_wp2_with fail
        go_loopw [16] (fun i wz => ∃ j : Nat, j ≤ l.length ∧ i = .int .i64 j ∧ Only [] w6 wz) (fun i _ => l.length - (intOf i).toNat)
        case atStart => exact ⟨0, by omega, rfl, Only.refl _ _⟩
        case round =>
          obtain ⟨j, hj, rfl, hOj⟩ := hrel
          rename World => wz
          have HOj := Lib.hid hOj
          clear hOj
          by_cases hltj : j < l.length
          · have hltji : (j : Int) < (l.length : Int) := by omega
            have hltm : j < m.length := by have := Hlm.out; omega
            have hltmi : (j : Int) < (m.length : Int) := by omega
            obtain ⟨ga, rfl, hba, hca⟩ := (Ht56.out.more HOj.out) (by omega)
            obtain ⟨gb, rfl, hbb, hcb⟩ := (Ht6.out.more HOj.out) (by omega)
            obtain ⟨c0, c1, c2⟩ := hca j _ (List.getElem?_eq_getElem hltj)
            obtain ⟨d0, d1, d2⟩ := hcb j _ (List.getElem?_eq_getElem hltm)
            obtain ⟨q1, q2⟩ := Hsame.out j hltj hltm
            rw [← q1] at d0
            rw [← q2] at d2
            clear q1 q2 hca hcb c1 d1
            generalize l[j] = f at *
            obtain ⟨fk, fa, fs⟩ := f
            unfold encStr at c2 d2
            simp only at c0 c2 d0 d2
            go_wp2_with fail
            go_quiet (fail)
            go_wp2
            go_roundw
            case rel => exact ⟨j + 1, by omega, by go_num, HOj.out.plus ((Only.refl [] wz).drewN _)⟩
            case measure => simp [intOf]; omega
          · have hgej : ¬ (j : Int) < (l.length : Int) := by omega
            have hmin : min (ns.length : Int) 40 = (l.length : Int) := by have := hkm.out; omega
            go_wp2_with fail
            refine (rname_any _ [97, 49] (by simp)).mono ?_
            rintro e w8 ⟨rfl, hO8⟩
            rw [a1_name]
            have HO8 := Lib.hid ((HO6.out.plus HOj.out).plus hO8)
            clear hO8
            go_wp2
            go_ret
            exact ⟨rfl, HO8.out⟩
      · clear hlt
        go_wp2_with fail
        refine (tokens_any _ S (by omega)).mono ?_
        rintro e w5 ⟨v5, rfl, hv5, hO5⟩
        rw [He1.out] at hv5 ⊢
        obtain ⟨a5, c5, rfl, ht5⟩ := hv5.toks
        have Ht5 := Lib.hid ht5
        have HO5 := Lib.hid (HO.out.plus hO5)
        clear hv5 ht5 hO5
        go_wp2_with fail
        refine (tokens_any _ T (by omega)).mono ?_
        rintro e w6 ⟨v6, rfl, hv6, hO6⟩
        rw [He2.out] at hv6 ⊢
        obtain ⟨a6, c6, rfl, ht6⟩ := hv6.toks
        have Ht6 := Lib.hid ht6
        have Ht56 := Lib.hid (Ht5.out.more hO6)
        have HO6 := Lib.hid (HO5.out.plus hO6)
        clear hv6 ht6 hO6
        have hlmi : (l.length : Int) = (m.length : Int) := by omega
        have Hlm := Lib.hid hlm
        have hl40 : l.length ≤ 40 := by omega
        clear hlm
        go_wp2_with fail
        go_loopw [16] (fun i wz => ∃ j : Nat, j ≤ l.length ∧ i = .int .i64 j ∧ Only [] w6 wz) (fun i _ => l.length - (intOf i).toNat)
        case atStart => exact ⟨0, by omega, rfl, Only.refl _ _⟩
        case round =>
          obtain ⟨j, hj, rfl, hOj⟩ := hrel
          rename World => wz
          have HOj := Lib.hid hOj
          clear hOj
          by_cases hltj : j < l.length
          · have hltji : (j : Int) < (l.length : Int) := by omega
            have hltm : j < m.length := by have := Hlm.out; omega
            have hltmi : (j : Int) < (m.length : Int) := by omega
            obtain ⟨ga, rfl, hba, hca⟩ := (Ht56.out.more HOj.out) (by omega)
            obtain ⟨gb, rfl, hbb, hcb⟩ := (Ht6.out.more HOj.out) (by omega)
            obtain ⟨c0, c1, c2⟩ := hca j _ (List.getElem?_eq_getElem hltj)
            obtain ⟨d0, d1, d2⟩ := hcb j _ (List.getElem?_eq_getElem hltm)
            obtain ⟨q1, q2⟩ := Hsame.out j hltj hltm
            rw [← q1] at d0
            rw [← q2] at d2
            clear q1 q2 hca hcb c1 d1
            generalize l[j] = f at *
            obtain ⟨fk, fa, fs⟩ := f
            unfold encStr at c2 d2
            simp only at c0 c2 d0 d2
            go_wp2_with fail
            go_quiet (fail)
            go_wp2
            go_roundw
            case rel => exact ⟨j + 1, by omega, by go_num, HOj.out.plus ((Only.refl [] wz).drewN _)⟩
            case measure => simp [intOf]; omega
          · have hgej : ¬ (j : Int) < (l.length : Int) := by omega
            have hmin : min (ns.length : Int) 40 = (l.length : Int) := by have := hkm.out; omega
            go_wp2_with fail
            refine (rname_any _ [97, 49] (by simp)).mono ?_
            rintro e w8 ⟨rfl, hO8⟩
            rw [a1_name]
            have HO8 := Lib.hid ((HO6.out.plus HOj.out).plus hO8)
            clear hO8
            go_wp2
            go_ret
            exact ⟨rfl, HO8.out⟩

end Go.Proofs.Ytdneaecahogmhaa
