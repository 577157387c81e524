/-
  The document's own names and sound sets (Name, Sound).
-/
import Derived.Test.YtgmkgpbhgoileaaGreatStAB
namespace Go.Proofs.YtgmkgpbhgoileaaGreat
set_option maxRecDepth 100000
set_option linter.unusedVariables false
open Go.RowKit Go.Sort Go.Maps

/-- A table of texts, laid as a row. -/
theorem table_cell {w : World} {g : Nat} {t : TypeId} (T : List (List UInt8)) (h : IsBlk w g (.cells (T.map encStr).toArray t)) (i : Nat) (hi : i < T.length) : w.cell? ⟨g, i, none⟩ = some (.string ⟨(T.getD i []).toArray⟩) := by
  rw [h.cell]
  simp [hi]
set_option maxHeartbeats 4000000 in
theorem rword_any (w : World) (s : List UInt8) : Calls Tryz.prog 50 #[encStr s] w fun e w' => e = .returned (.bool (wordM s)) ∧ Only [] w w' := by
  unfold encStr
  have hq := IsBlk.made w (.cells #[.string ⟨#[118, 97, 114]⟩, .string ⟨#[108, 111, 99, 107]⟩, .string ⟨#[102, 117, 110, 99]⟩, .string ⟨#[117, 115, 101]⟩, .string ⟨#[115, 101, 116]⟩, .string ⟨#[117, 110, 108, 111, 99, 107]⟩, .string ⟨#[99, 97, 108, 108]⟩, .string ⟨#[115, 112, 97, 119, 110]⟩, .string ⟨#[105, 102]⟩, .string ⟨#[101, 108, 115, 101]⟩, .string ⟨#[108, 111, 111, 112]⟩] 9)
  have hO1 := (Only.refl [] w).alloc (.cells #[.string ⟨#[118, 97, 114]⟩, .string ⟨#[108, 111, 99, 107]⟩, .string ⟨#[102, 117, 110, 99]⟩, .string ⟨#[117, 115, 101]⟩, .string ⟨#[115, 101, 116]⟩, .string ⟨#[117, 110, 108, 111, 99, 107]⟩, .string ⟨#[99, 97, 108, 108]⟩, .string ⟨#[115, 112, 97, 119, 110]⟩, .string ⟨#[105, 102]⟩, .string ⟨#[101, 108, 115, 101]⟩, .string ⟨#[108, 111, 111, 112]⟩] 9)
  go_enter Tryz.func50, Tryz.ntmps50
  go_wp2_with fail
  have Hq : Hid (IsBlk (w.alloc (.cells #[.string ⟨#[118, 97, 114]⟩, .string ⟨#[108, 111, 99, 107]⟩, .string ⟨#[102, 117, 110, 99]⟩, .string ⟨#[117, 115, 101]⟩, .string ⟨#[115, 101, 116]⟩, .string ⟨#[117, 110, 108, 111, 99, 107]⟩, .string ⟨#[99, 97, 108, 108]⟩, .string ⟨#[115, 112, 97, 119, 110]⟩, .string ⟨#[105, 102]⟩, .string ⟨#[101, 108, 115, 101]⟩, .string ⟨#[108, 111, 111, 112]⟩] 9)) w.heap.size (.cells (wordsM.map encStr).toArray 9)) := Lib.hid hq
  have HO1 := Lib.hid hO1
  clear hq hO1
  generalize w.alloc (.cells #[.string ⟨#[118, 97, 114]⟩, .string ⟨#[108, 111, 99, 107]⟩, .string ⟨#[102, 117, 110, 99]⟩, .string ⟨#[117, 115, 101]⟩, .string ⟨#[115, 101, 116]⟩, .string ⟨#[117, 110, 108, 111, 99, 107]⟩, .string ⟨#[99, 97, 108, 108]⟩, .string ⟨#[115, 112, 97, 119, 110]⟩, .string ⟨#[105, 102]⟩, .string ⟨#[101, 108, 115, 101]⟩, .string ⟨#[108, 111, 111, 112]⟩] 9) = w1 at *
  go_loop [4] (fun i => ∃ k : Nat, k ≤ 11 ∧ i = .int .i64 k ∧ Hid (s ∉ wordsM.take k)) (fun i => 11 - (intOf i).toNat)
  case atStart => exact ⟨0, by omega, rfl, Lib.hid (by simp)⟩
  case round =>
    obtain ⟨k, hk, rfl, hno⟩ := hrel
    by_cases hlt : k < 11
    · have hlti : (k : Int) < 11 := by omega
      have hkT : k < wordsM.length := hlt
      have hc := table_cell wordsM Hq.out k hkT
      have e0 : wordsM.getD k [] = wordsM[k] := by simp [hkT]
      rw [e0] at hc
      have Htk : Hid (wordsM.take (k + 1) = wordsM.take k ++ [wordsM[k]]) := Lib.hid (by rw [List.take_add_one, List.getElem?_eq_getElem hkT]; rfl)
      have Hin : Hid (wordsM[k] ∈ wordsM) := Lib.hid (List.getElem_mem hkT)
      generalize wordsM[k] = x at *
      by_cases he : s = x
      · subst he
        go_wp2
        go_ret
        exact ⟨by simp [wordM, Hin.out], HO1.out⟩
      · have heb : (s == x) = false := by simpa using he
        go_wp2
        go_round
        case rel =>
          refine ⟨k + 1, by omega, by go_num, Lib.hid (fun hm => ?_)⟩
          rw [Htk.out] at hm
          rcases List.mem_append.1 hm with h1 | h1
          · exact hno.out h1
          · simp at h1; exact he h1
        case measure => simp [intOf]; omega
    · have hge : ¬ (k : Int) < 11 := by omega
      go_wp2
      go_ret
      have := hno.out
      rw [List.take_of_length_le (by show 11 ≤ k; omega)] at this
      exact ⟨by simp [wordM, this], HO1.out⟩

def alnB (c : UInt8) : Bool := letB c || digB c
/-- A name, byte by byte. -/
theorem name_bytes (s : List UInt8) : nameM s = (decide (1 ≤ s.length) && decide (s.length ≤ 12) && !wordM s && decide (97 ≤ (s.head?.getD 0).toNat) && s.all alnB) := by
  cases s with
  | nil => simp [nameM]
  | cons c r =>
    unfold nameM
    have e1 : (c :: r).head?.getD 0 = c := rfl
    have e2 : (c :: r).all (fun c => letB c || digB c) = (alnB c && r.all alnB) := rfl
    rw [e1, e2, List.all_cons]
    by_cases hc : letB c = true
    · have h97 : 97 ≤ c.toNat := by simp [letB] at hc; exact hc.1
      simp [hc, h97, alnB]
    · have hx : (decide (97 ≤ c.toNat) && alnB c) = false := by
        simp [letB] at hc
        simp [alnB, letB, digB]
        omega
      have hc' : letB c = false := by simpa using hc
      rw [hc', Bool.and_assoc (b := decide (97 ≤ c.toNat)), ← Bool.and_assoc (decide (97 ≤ c.toNat)) (alnB c), hx]
      simp

set_option maxHeartbeats 4000000 in
theorem rname4_any (w : World) (s : List UInt8) (hs : s.length ≤ 100000) : Calls Tryz.prog 31 #[encStr s] w fun e w' => e = .returned (.bool (nameM s)) ∧ Only [] w w' := by
  unfold encStr
  go_enter Tryz.func31, Tryz.ntmps31
  by_cases h1 : (s.length : Int) < 1
  · have h0 : s.length = 0 := by omega
    go_wp2
    go_ret
    exact ⟨by simp [name_bytes, h0], Only.refl _ _⟩
  by_cases h2 : (12 : Int) < (s.length : Int)
  · go_wp2
    go_ret
    exact ⟨by have : ¬ s.length ≤ 12 := by omega
              simp [name_bytes, this], Only.refl _ _⟩
  have a1 : 1 ≤ s.length := by omega
  have a2 : s.length ≤ 12 := by omega
  have hhd : (⟨s.toArray⟩ : ByteArray)[0]'(by simp [ByteArray.size]; omega) = s.head?.getD 0 := by
    cases s with
    | nil => simp at a1
    | cons a r => rfl
  go_wp2_with fail
  refine (rword_any _ s).mono ?_
  rintro e w1 ⟨rfl, hO⟩
  have HO := Lib.hid hO
  clear hO
  cases hw : wordM s with
  | true =>
    go_wp2
    go_ret
    exact ⟨by simp [name_bytes, hw], HO.out⟩
  | false =>
    by_cases h97 : (s.head?.getD 0).toNat < 97
    · have h97i : ((s.head?.getD 0).toNat : Int) < 97 := by omega
      go_wp2
      go_ret
      exact ⟨by have : ¬ 97 ≤ (s.head?.getD 0).toNat := by omega
                simp [name_bytes, this], HO.out⟩
    have h97i : ¬ ((s.head?.getD 0).toNat : Int) < 97 := by omega
    have Hres : Hid (∀ b, s.all alnB = b → nameM s = b) := Lib.hid (fun b hb => by
      have : 97 ≤ (s.head?.getD 0).toNat := by omega
      simp [name_bytes, hw, a1, a2, this, hb])
    clear hw
    go_wp2_with fail
    go_loop [3] (fun i => ∃ k : Nat, k ≤ s.length ∧ i = .int .i64 k ∧ Hid ((s.take k).all alnB = true)) (fun i => s.length - (intOf i).toNat)
    case atStart => exact ⟨0, Nat.zero_le _, rfl, Lib.hid rfl⟩
    case round =>
      obtain ⟨k, hk, rfl, hall⟩ := hrel
      by_cases hlt : k < s.length
      · have hlti : (k : Int) < (s.length : Int) := by omega
        have hget : (⟨s.toArray⟩ : ByteArray)[k]'(by simpa [ByteArray.size] using hlt) = s[k] := rfl
        have Hst : Hid (s.take (k + 1) = s.take k ++ [s[k]]) := Lib.hid (by rw [List.take_add_one, List.getElem?_eq_getElem hlt]; rfl)
        have Hall : Hid (alnB s[k] = true → (s.take (k + 1)).all alnB = true) := Lib.hid (fun hb => by
          rw [Hst.out, List.all_append, hall.out]; simp [hb])
        have Hbad : Hid (alnB s[k] = false → s.all alnB = false) := Lib.hid (fun hb => by
          rw [List.all_eq_false]; exact ⟨s[k], List.getElem_mem hlt, by simp [hb]⟩)
        have Hdef : Hid (alnB s[k] = (decide (97 ≤ s[k].toNat) && decide (s[k].toNat ≤ 122) || decide (48 ≤ s[k].toNat) && decide (s[k].toNat ≤ 57))) := Lib.hid rfl
        have hc := s[k].toNat_lt
        by_cases c1 : (s[k].toNat : Int) < 97
        · have c2 : ¬ (122 : Int) < (s[k].toNat : Int) := by omega
          by_cases c3 : (s[k].toNat : Int) < 48
          · have Hf := Lib.hid (Hres.out _ (Hbad.out (by rw [Hdef.out]; have q1 : ¬ 97 ≤ s[k].toNat := by omega
                                                         have q2 : ¬ 48 ≤ s[k].toNat := by omega
                                                         simp [q1, q2])))
            go_wp2
            go_ret
            exact ⟨congrArg (fun b => Ending.returned (.bool b)) Hf.out.symm, HO.out⟩
          · by_cases c4 : (57 : Int) < (s[k].toNat : Int)
            · have Hf := Lib.hid (Hres.out _ (Hbad.out (by rw [Hdef.out]; have q1 : ¬ 97 ≤ s[k].toNat := by omega
                                                           have q2 : ¬ s[k].toNat ≤ 57 := by omega
                                                           simp [q1, q2])))
              go_wp2
              go_ret
              exact ⟨congrArg (fun b => Ending.returned (.bool b)) Hf.out.symm, HO.out⟩
            · have Hf := Lib.hid (Hall.out (by rw [Hdef.out]; have q1 : 48 ≤ s[k].toNat := by omega
                                               have q2 : s[k].toNat ≤ 57 := by omega
                                               simp [q1, q2]))
              go_wp2
              go_round
              case rel => exact ⟨k + 1, by omega, by go_num, Hf⟩
              case measure => simp [intOf]; omega
        · by_cases c2 : (122 : Int) < (s[k].toNat : Int)
          · have c3 : ¬ (s[k].toNat : Int) < 48 := by omega
            have c4 : (57 : Int) < (s[k].toNat : Int) := by omega
            have Hf := Lib.hid (Hres.out _ (Hbad.out (by rw [Hdef.out]; have q1 : ¬ s[k].toNat ≤ 122 := by omega
                                                         have q2 : ¬ s[k].toNat ≤ 57 := by omega
                                                         simp [q1, q2])))
            go_wp2
            go_ret
            exact ⟨congrArg (fun b => Ending.returned (.bool b)) Hf.out.symm, HO.out⟩
          · have Hf := Lib.hid (Hall.out (by rw [Hdef.out]; have q1 : 97 ≤ s[k].toNat := by omega
                                             have q2 : s[k].toNat ≤ 122 := by omega
                                             simp [q1, q2]))
            go_wp2
            go_round
            case rel => exact ⟨k + 1, by omega, by go_num, Hf⟩
            case measure => simp [intOf]; omega
      · have hge : ¬ (k : Int) < (s.length : Int) := by omega
        have Hf : Hid (s.all alnB = true) := Lib.hid (by have := hall.out; rwa [List.take_of_length_le (by omega)] at this)
        go_wp2
        go_ret
        exact ⟨congrArg (fun b => Ending.returned (.bool b)) (Hres.out _ Hf.out).symm, HO.out⟩

/-- Files sound so far. -/
def okTo (l : List FileM) (j : Nat) : Prop := (∀ f ∈ l.take j, nameM f.1 = true ∧ f.2.length ≤ 2000) ∧ ((l.take j).map (·.1)).Nodup
theorem okTo_succ {l : List FileM} {j : Nat} (hj : j < l.length) : okTo l (j + 1) ↔ okTo l j ∧ nameM l[j].1 = true ∧ l[j].2.length ≤ 2000 ∧ l[j].1 ∉ (l.take j).map (·.1) := by
  have e : l.take (j + 1) = l.take j ++ [l[j]] := by rw [List.take_add_one, List.getElem?_eq_getElem hj]; rfl
  unfold okTo
  rw [e, List.map_append, List.nodup_append]
  constructor
  · rintro ⟨h1, h2, -, h3⟩
    refine ⟨⟨fun f hf => h1 f (List.mem_append_left _ hf), h2⟩, (h1 l[j] (List.mem_append_right _ (List.mem_singleton.2 rfl))).1, (h1 l[j] (List.mem_append_right _ (List.mem_singleton.2 rfl))).2, fun hm => ?_⟩
    exact h3 _ hm _ (by simp) rfl
  · rintro ⟨⟨h1, h2⟩, h3, h4, h5⟩
    refine ⟨fun f hf => ?_, h2, by simp, fun x hx y hy => ?_⟩
    · rcases List.mem_append.1 hf with h | h
      · exact h1 f h
      · simp at h; subst h; exact ⟨h3, h4⟩
    · simp at hy; subst hy; exact fun e => h5 (e ▸ hx)
theorem okTo_less {l : List FileM} : ∀ {k j : Nat}, j ≤ k → okTo l k → okTo l j := fun {k j} hjk h => by
  have e : l.take j = (l.take k).take j := by rw [List.take_take, Nat.min_eq_left hjk]
  unfold okTo
  rw [e]
  refine ⟨fun f hf => h.1 f (List.mem_of_mem_take hf), ?_⟩
  rw [List.map_take]
  exact h.2.sublist (List.take_sublist _ _)
theorem okTo_all (l : List FileM) : okTo l l.length ↔ goodM l := by unfold okTo goodM; rw [List.take_length]

set_option maxHeartbeats 16000000 in
theorem rsound_any (w : World) (a : Option Addr) (len cap : Nat) (l : List FileM) (h : FilesAt w a len l) (hm : ∀ f ∈ l, f.1.length ≤ 100000 ∧ f.2.length ≤ 100000) (hml : len ≤ 1000) (hcap : len ≤ cap) :
    Calls Tryz.prog 14 #[.slice a len cap] w fun e w' => e = .returned (.bool (soundM l)) ∧ Only [] w w' := by
  have H := Lib.hid h
  have HM := Lib.hid hm
  obtain rfl := h.1
  clear h hm
  go_enter Tryz.func14, Tryz.ntmps14
  by_cases h8 : 8 < l.length
  · have h8i : (8 : Int) < (l.length : Int) := by omega
    go_wp2
    go_ret
    exact ⟨by have : ¬ l.length ≤ 8 := by omega
              simp [soundM, this], Only.refl _ _⟩
  have h8i : ¬ (8 : Int) < (l.length : Int) := by omega
  have Hbad : Hid (∀ j, j ≤ l.length → ¬ okTo l j → soundM l = false) := Lib.hid (fun j hj hn => by
    have : ¬ goodM l := fun hg => hn (okTo_less hj ((okTo_all l).2 hg))
    simp [soundM, this])
  have Hgood : Hid (okTo l l.length → soundM l = true) := Lib.hid (fun hk => by
    have h1 := (okTo_all l).1 hk
    have h2 : l.length ≤ 8 := by omega
    simp [soundM, h1, h2])
  go_wp2_with fail
  go_loopw [3] (fun i wr => ∃ j : Nat, j ≤ l.length ∧ i = .int .i64 j ∧ Hid (okTo l j) ∧ Only [] w wr) (fun i _ => l.length - (intOf i).toNat)
  case atStart => exact ⟨0, by omega, rfl, Lib.hid ⟨by simp, by simp⟩, Only.refl _ _⟩
  case round =>
    obtain ⟨j, hj, rfl, hok, hO⟩ := hrel
    have HO := Lib.hid hO
    clear hO
    by_cases hlt : j < l.length
    · have hlti : (j : Int) < (l.length : Int) := by omega
      have hF := H.out.more HO.out
      obtain ⟨b, o, rfl, hb, hc⟩ := hF.2 (by omega)
      obtain ⟨c0, c1⟩ := hc j _ (List.getElem?_eq_getElem hlt)
      have Hstep := Lib.hid (okTo_succ hlt)
      have hbig := HM.out l[j] (List.getElem_mem hlt)
      have Htake : Hid (∀ W : World, Only [] wr W → FilesAt W (some ⟨b, o, none⟩) j (l.take j)) := Lib.hid (fun W hW => by
        refine ⟨by rw [List.length_take]; omega, fun _ => ⟨b, o, rfl, Nat.lt_of_lt_of_le hb hW.size, fun i f hi => ?_⟩⟩
        have hij : i < j := by have := (List.getElem?_eq_some_iff.1 hi).1; rw [List.length_take] at this; omega
        rw [List.getElem?_take_of_lt hij] at hi
        obtain ⟨d0, d1⟩ := hc i f hi
        exact ⟨(hW.cell (p := ⟨b, _, none⟩) hb (by simp)).trans d0, (hW.cell (p := ⟨b, _, none⟩) hb (by simp)).trans d1⟩)
      have Hjc : Hid ((j : Int) ≤ (cap : Int)) := Lib.hid (by omega)
      clear hF hc
      generalize l[j] = f at *
      obtain ⟨fn, ft⟩ := f
      unfold encStr at c0 c1
      simp only at c0 c1 hbig Hstep
      have hfn : fn.length ≤ 100000 := hbig.1
      cases hnm : nameM fn with
      | false =>
          have Hnm := Lib.hid hnm
          have Hno := Lib.hid (Hbad.out (j + 1) (by omega) (fun hk => by have := (Hstep.out.1 hk).2.1; rw [hnm] at this; cases this))
          clear hnm
          go_upto_region 6 with fail
          refine wp_region_stabL (P := Tryz.prog) 28 (by kernel_rfl) (by kernel_rfl) (Only []) (Only.refl _ _) (fun _ _ _ h k => h.then k [] (by simp) (by simp))
            [SP.is (.slice (some ⟨b, o, none⟩) l.length cap),
             SP.is (.int .i64 j),
             SP.is (.pointer (some ⟨b, o + j * 2, none⟩)),
             SP.is (.pointer (some ⟨b, o + j * 2, none⟩)),
             SP.is (.string ⟨fn.toArray⟩),
             SP.is (.bool false),
             SP.is (.bool true),
             SP.is (.bool true),
             SP.is (undef),
             SP.is (undef),
             SP.is (undef),
             SP.is (undef),
             SP.is (undef),
             SP.is (undef),
             SP.is (undef),
             SP.is (.bool true),
             SP.is (.bool true),
             SP.is (undef),
             SP.is (undef),
             SP.is (undef),
             SP.is (undef),
             SP.is (undef),
             SP.is (undef),
             SP.is (undef),
             SP.is (undef),
             SP.is (undef),
             SP.is (undef),
             SP.is (.bool true)] ?_ ?_
          · simp only [List.take_succ_cons, List.take_zero]
            refine StepsOK.cons ?_ (StepsOK.cons ?_ (StepsOK.cons ?_ (StepsOK.cons ?_ (StepsOK.cons ?_ (StepsOK.cons ?_ (StepsOK.cons ?_ (StepsOK.cons ?_ (StepsOK.cons ?_ (StepsOK.cons ?_ (StepsOK.cons ?_ (StepsOK.cons ?_ (StepsOK.cons ?_ (StepsOK.cons ?_ (StepsOK.cons ?_ (StepsOK.cons ?_ (StepsOK.cons ?_ (StepsOK.cons ?_ (StepsOK.cons ?_ (StepsOK.cons ?_ (StepsOK.cons ?_ (StepsOK.cons ?_ (StepsOK.cons ?_ (StepsOK.cons ?_ (StepsOK.cons ?_ (StepsOK.cons ?_ (StepsOK.cons ?_ (StepsOK.cons ?_ StepsOK.nil)))))))))))))))))))))))))))
            · intro a W L N hR hold hφ hcl hkp hd K hK
              have e0 := hold 0 (by kernel_rfl)
              clear hold hφ hcl hkp hd
              rw [if_pos (by rfl)]
              go_simp
              exact hK _ _ (Only.refl _ _) rfl
            · intro a W L N hR hold hφ hcl hkp hd K hK
              have e3 := hold 3 (by kernel_rfl)
              clear hold hφ hcl hkp hd
              rw [if_pos (by rfl)]
              go_simp
              exact hK _ _ (Only.refl _ _) rfl
            · intro a W L N hR hold hφ hcl hkp hd K hK
              have e13 := got hφ (hd 0 (by kernel_rfl)) rfl rfl rfl
              have e14 := got hφ (hd 1 (by kernel_rfl)) rfl rfl rfl
              clear hold hφ hcl hkp hd
              rw [if_pos (by rfl)]
              have hjl := hlti
              go_simp
              exact hK _ _ (Only.refl _ _) rfl
            · intro a W L N hR hold hφ hcl hkp hd K hK
              have e15 := got hφ (hd 2 (by kernel_rfl)) rfl rfl rfl
              clear hold hφ hcl hkp hd
              rw [if_pos (by rfl)]
              go_simp
              exact hK _ _ (Only.refl _ _) rfl
            · intro a W L N hR hold hφ hcl hkp hd K hK
              have e16 := got hφ (hd 3 (by kernel_rfl)) rfl rfl rfl
              have hld : W.cell? ⟨b, o + j * 2, none⟩ = some (.string ⟨fn.toArray⟩) := ((((Only.refl [] wr).drew).plus hR).cell (p := ⟨b, _, none⟩) hb (by simp)).trans c0
              clear hold hφ hcl hkp hd
              rw [if_pos (by rfl)]
              go_simp
              exact hK _ _ (Only.refl _ _) rfl
            · intro a W L N hR hold hφ hcl hkp hd K hK
              have e17 := got hφ (hd 4 (by kernel_rfl)) rfl rfl rfl
              clear hold hφ hcl hkp hd
              rw [if_pos (by rfl)]
              go_simp
              refine (rname4_any W fn hfn).mono ?_
              rintro e w' ⟨rfl, hO⟩
              rw [Hnm.out]
              exact hK _ _ hO rfl
            · intro a W L N hR hold hφ hcl hkp hd K hK
              have e18 := got hφ (hd 5 (by kernel_rfl)) rfl rfl rfl
              clear hold hφ hcl hkp hd
              rw [if_pos (by rfl)]
              go_simp
              exact hK _ _ (Only.refl _ _) rfl
            · intro a W L N hR hold hφ hcl hkp hd K hK
              have e19 := got hφ (hd 6 (by kernel_rfl)) rfl rfl rfl
              clear hold hφ hcl hkp hd
              rw [if_pos (by rfl)]
              go_simp
              exact hK _ _ (Only.refl _ _) rfl
            · intro a W L N hR hold hφ hcl hkp hd K hK
              have e0 := hold 0 (by kernel_rfl)
              have e20 := got hφ (hd 7 (by kernel_rfl)) rfl rfl rfl
              clear hold hφ hcl hkp hd
              rw [if_neg (by simp [Region.wanted, yielded, e20])]
              exact hK _ _ (Only.refl _ _) rfl
            · intro a W L N hR hold hφ hcl hkp hd K hK
              have e3 := hold 3 (by kernel_rfl)
              have e20 := got hφ (hd 7 (by kernel_rfl)) rfl rfl rfl
              clear hold hφ hcl hkp hd
              rw [if_neg (by simp [Region.wanted, yielded, e20])]
              exact hK _ _ (Only.refl _ _) rfl
            · intro a W L N hR hold hφ hcl hkp hd K hK
              have e21 := got hφ (hd 8 (by kernel_rfl)) rfl rfl rfl
              have e22 := got hφ (hd 9 (by kernel_rfl)) rfl rfl rfl
              have e20 := got hφ (hd 7 (by kernel_rfl)) rfl rfl rfl
              clear hold hφ hcl hkp hd
              rw [if_neg (by simp [Region.wanted, yielded, e20])]
              exact hK _ _ (Only.refl _ _) rfl
            · intro a W L N hR hold hφ hcl hkp hd K hK
              have e23 := got hφ (hd 10 (by kernel_rfl)) rfl rfl rfl
              have e20 := got hφ (hd 7 (by kernel_rfl)) rfl rfl rfl
              clear hold hφ hcl hkp hd
              rw [if_neg (by simp [Region.wanted, yielded, e20])]
              exact hK _ _ (Only.refl _ _) rfl
            · intro a W L N hR hold hφ hcl hkp hd K hK
              have e24 := got hφ (hd 11 (by kernel_rfl)) rfl rfl rfl
              have e20 := got hφ (hd 7 (by kernel_rfl)) rfl rfl rfl
              clear hold hφ hcl hkp hd
              rw [if_neg (by simp [Region.wanted, yielded, e20])]
              exact hK _ _ (Only.refl _ _) rfl
            · intro a W L N hR hold hφ hcl hkp hd K hK
              have e25 := got hφ (hd 12 (by kernel_rfl)) rfl rfl rfl
              have e20 := got hφ (hd 7 (by kernel_rfl)) rfl rfl rfl
              clear hold hφ hcl hkp hd
              rw [if_neg (by simp [Region.wanted, yielded, e20])]
              exact hK _ _ (Only.refl _ _) rfl
            · intro a W L N hR hold hφ hcl hkp hd K hK
              have e26 := got hφ (hd 13 (by kernel_rfl)) rfl rfl rfl
              have e20 := got hφ (hd 7 (by kernel_rfl)) rfl rfl rfl
              clear hold hφ hcl hkp hd
              rw [if_neg (by simp [Region.wanted, yielded, e20])]
              exact hK _ _ (Only.refl _ _) rfl
            · intro a W L N hR hold hφ hcl hkp hd K hK
              have e20 := got hφ (hd 7 (by kernel_rfl)) rfl rfl rfl
              have e27 := got hφ (hd 14 (by kernel_rfl)) rfl rfl rfl
              clear hold hφ hcl hkp hd
              rw [if_pos (by rfl)]
              go_simp
              exact hK _ _ (Only.refl _ _) rfl
            · intro a W L N hR hold hφ hcl hkp hd K hK
              have e28 := got hφ (hd 15 (by kernel_rfl)) rfl rfl rfl
              clear hold hφ hcl hkp hd
              rw [if_pos (by rfl)]
              go_simp
              exact hK _ _ (Only.refl _ _) rfl
            · intro a W L N hR hold hφ hcl hkp hd K hK
              have e0 := hold 0 (by kernel_rfl)
              have e29 := got hφ (hd 16 (by kernel_rfl)) rfl rfl rfl
              clear hold hφ hcl hkp hd
              rw [if_neg (by simp [Region.wanted, yielded, e29])]
              exact hK _ _ (Only.refl _ _) rfl
            · intro a W L N hR hold hφ hcl hkp hd K hK
              have e3 := hold 3 (by kernel_rfl)
              have e29 := got hφ (hd 16 (by kernel_rfl)) rfl rfl rfl
              clear hold hφ hcl hkp hd
              rw [if_neg (by simp [Region.wanted, yielded, e29])]
              exact hK _ _ (Only.refl _ _) rfl
            · intro a W L N hR hold hφ hcl hkp hd K hK
              have e30 := got hφ (hd 17 (by kernel_rfl)) rfl rfl rfl
              have e31 := got hφ (hd 18 (by kernel_rfl)) rfl rfl rfl
              have e29 := got hφ (hd 16 (by kernel_rfl)) rfl rfl rfl
              clear hold hφ hcl hkp hd
              rw [if_neg (by simp [Region.wanted, yielded, e29])]
              exact hK _ _ (Only.refl _ _) rfl
            · intro a W L N hR hold hφ hcl hkp hd K hK
              have e0 := hold 0 (by kernel_rfl)
              have e29 := got hφ (hd 16 (by kernel_rfl)) rfl rfl rfl
              clear hold hφ hcl hkp hd
              rw [if_neg (by simp [Region.wanted, yielded, e29])]
              exact hK _ _ (Only.refl _ _) rfl
            · intro a W L N hR hold hφ hcl hkp hd K hK
              have e3 := hold 3 (by kernel_rfl)
              have e29 := got hφ (hd 16 (by kernel_rfl)) rfl rfl rfl
              clear hold hφ hcl hkp hd
              rw [if_neg (by simp [Region.wanted, yielded, e29])]
              exact hK _ _ (Only.refl _ _) rfl
            · intro a W L N hR hold hφ hcl hkp hd K hK
              have e33 := got hφ (hd 20 (by kernel_rfl)) rfl rfl rfl
              have e34 := got hφ (hd 21 (by kernel_rfl)) rfl rfl rfl
              have e29 := got hφ (hd 16 (by kernel_rfl)) rfl rfl rfl
              clear hold hφ hcl hkp hd
              rw [if_neg (by simp [Region.wanted, yielded, e29])]
              exact hK _ _ (Only.refl _ _) rfl
            · intro a W L N hR hold hφ hcl hkp hd K hK
              have e35 := got hφ (hd 22 (by kernel_rfl)) rfl rfl rfl
              have e29 := got hφ (hd 16 (by kernel_rfl)) rfl rfl rfl
              clear hold hφ hcl hkp hd
              rw [if_neg (by simp [Region.wanted, yielded, e29])]
              exact hK _ _ (Only.refl _ _) rfl
            · intro a W L N hR hold hφ hcl hkp hd K hK
              have e36 := got hφ (hd 23 (by kernel_rfl)) rfl rfl rfl
              have e29 := got hφ (hd 16 (by kernel_rfl)) rfl rfl rfl
              clear hold hφ hcl hkp hd
              rw [if_neg (by simp [Region.wanted, yielded, e29])]
              exact hK _ _ (Only.refl _ _) rfl
            · intro a W L N hR hold hφ hcl hkp hd K hK
              have e32 := got hφ (hd 19 (by kernel_rfl)) rfl rfl rfl
              have e37 := got hφ (hd 24 (by kernel_rfl)) rfl rfl rfl
              have e29 := got hφ (hd 16 (by kernel_rfl)) rfl rfl rfl
              clear hold hφ hcl hkp hd
              rw [if_neg (by simp [Region.wanted, yielded, e29])]
              exact hK _ _ (Only.refl _ _) rfl
            · intro a W L N hR hold hφ hcl hkp hd K hK
              have e38 := got hφ (hd 25 (by kernel_rfl)) rfl rfl rfl
              have e29 := got hφ (hd 16 (by kernel_rfl)) rfl rfl rfl
              clear hold hφ hcl hkp hd
              rw [if_neg (by simp [Region.wanted, yielded, e29])]
              exact hK _ _ (Only.refl _ _) rfl
            · intro a W L N hR hold hφ hcl hkp hd K hK
              have e29 := got hφ (hd 16 (by kernel_rfl)) rfl rfl rfl
              have e39 := got hφ (hd 26 (by kernel_rfl)) rfl rfl rfl
              clear hold hφ hcl hkp hd
              rw [if_pos (by rfl)]
              go_simp
              exact hK _ _ (Only.refl _ _) rfl
          · intro us W hO' hus
            have p27 : us 27 = .bool true := hus 27 _ 40 (by omega) rfl rfl
            clear hus
            simp only [List.take_succ_cons, List.take_zero, List.drop_succ_cons, List.drop_zero, fillAct, Act.put, List.setIfInBounds_toArray, List.set_cons_zero, List.set_cons_succ, Nat.reduceAdd, p27]
            clear p27
            have HO4 := Lib.hid (HO.out.plus (((Only.refl [] wr).drew).plus hO'))
            clear hO'
            go_wp2
            go_ret
            exact ⟨congrArg (fun b => Ending.returned (.bool b)) Hno.out.symm, HO4.out⟩
      | true =>
        have Hnm := Lib.hid hnm
        clear hnm
        by_cases hft : 2000 < ft.length
        · have Hft : Hid ((2000 : Int) < (ft.length : Int)) := Lib.hid (by omega)
          have Hno := Lib.hid (Hbad.out (j + 1) (by omega) (fun hk => by have := (Hstep.out.1 hk).2.2.1; omega))
          go_upto_region 6 with fail
          refine wp_region_stabL (P := Tryz.prog) 28 (by kernel_rfl) (by kernel_rfl) (Only []) (Only.refl _ _) (fun _ _ _ h k => h.then k [] (by simp) (by simp))
            [SP.is (.slice (some ⟨b, o, none⟩) l.length cap),
             SP.is (.int .i64 j),
             SP.is (.pointer (some ⟨b, o + j * 2, none⟩)),
             SP.is (.pointer (some ⟨b, o + j * 2, none⟩)),
             SP.is (.string ⟨fn.toArray⟩),
             SP.is (.bool true),
             SP.is (.bool false),
             SP.is (.bool false),
             SP.is (.slice (some ⟨b, o, none⟩) l.length cap),
             SP.is (.int .i64 j),
             SP.is (.pointer (some ⟨b, o + j * 2, none⟩)),
             SP.is (.pointer (some ⟨b, o + j * 2 + 1, none⟩)),
             SP.is (.string ⟨ft.toArray⟩),
             SP.is (.int .i64 (ft.length : Nat)),
             SP.is (.bool true),
             SP.is (.bool true),
             SP.is (.bool true),
             SP.is (undef),
             SP.is (undef),
             SP.is (undef),
             SP.is (undef),
             SP.is (undef),
             SP.is (undef),
             SP.is (undef),
             SP.is (undef),
             SP.is (undef),
             SP.is (undef),
             SP.is (.bool true)] ?_ ?_
          · simp only [List.take_succ_cons, List.take_zero]
            refine StepsOK.cons ?_ (StepsOK.cons ?_ (StepsOK.cons ?_ (StepsOK.cons ?_ (StepsOK.cons ?_ (StepsOK.cons ?_ (StepsOK.cons ?_ (StepsOK.cons ?_ (StepsOK.cons ?_ (StepsOK.cons ?_ (StepsOK.cons ?_ (StepsOK.cons ?_ (StepsOK.cons ?_ (StepsOK.cons ?_ (StepsOK.cons ?_ (StepsOK.cons ?_ (StepsOK.cons ?_ (StepsOK.cons ?_ (StepsOK.cons ?_ (StepsOK.cons ?_ (StepsOK.cons ?_ (StepsOK.cons ?_ (StepsOK.cons ?_ (StepsOK.cons ?_ (StepsOK.cons ?_ (StepsOK.cons ?_ (StepsOK.cons ?_ (StepsOK.cons ?_ StepsOK.nil)))))))))))))))))))))))))))
            · intro a W L N hR hold hφ hcl hkp hd K hK
              have e0 := hold 0 (by kernel_rfl)
              clear hold hφ hcl hkp hd
              rw [if_pos (by rfl)]
              go_simp
              exact hK _ _ (Only.refl _ _) rfl
            · intro a W L N hR hold hφ hcl hkp hd K hK
              have e3 := hold 3 (by kernel_rfl)
              clear hold hφ hcl hkp hd
              rw [if_pos (by rfl)]
              go_simp
              exact hK _ _ (Only.refl _ _) rfl
            · intro a W L N hR hold hφ hcl hkp hd K hK
              have e13 := got hφ (hd 0 (by kernel_rfl)) rfl rfl rfl
              have e14 := got hφ (hd 1 (by kernel_rfl)) rfl rfl rfl
              clear hold hφ hcl hkp hd
              rw [if_pos (by rfl)]
              have hjl := hlti
              go_simp
              exact hK _ _ (Only.refl _ _) rfl
            · intro a W L N hR hold hφ hcl hkp hd K hK
              have e15 := got hφ (hd 2 (by kernel_rfl)) rfl rfl rfl
              clear hold hφ hcl hkp hd
              rw [if_pos (by rfl)]
              go_simp
              exact hK _ _ (Only.refl _ _) rfl
            · intro a W L N hR hold hφ hcl hkp hd K hK
              have e16 := got hφ (hd 3 (by kernel_rfl)) rfl rfl rfl
              have hld : W.cell? ⟨b, o + j * 2, none⟩ = some (.string ⟨fn.toArray⟩) := ((((Only.refl [] wr).drew).plus hR).cell (p := ⟨b, _, none⟩) hb (by simp)).trans c0
              clear hold hφ hcl hkp hd
              rw [if_pos (by rfl)]
              go_simp
              exact hK _ _ (Only.refl _ _) rfl
            · intro a W L N hR hold hφ hcl hkp hd K hK
              have e17 := got hφ (hd 4 (by kernel_rfl)) rfl rfl rfl
              clear hold hφ hcl hkp hd
              rw [if_pos (by rfl)]
              go_simp
              refine (rname4_any W fn hfn).mono ?_
              rintro e w' ⟨rfl, hO⟩
              rw [Hnm.out]
              exact hK _ _ hO rfl
            · intro a W L N hR hold hφ hcl hkp hd K hK
              have e18 := got hφ (hd 5 (by kernel_rfl)) rfl rfl rfl
              clear hold hφ hcl hkp hd
              rw [if_pos (by rfl)]
              go_simp
              exact hK _ _ (Only.refl _ _) rfl
            · intro a W L N hR hold hφ hcl hkp hd K hK
              have e19 := got hφ (hd 6 (by kernel_rfl)) rfl rfl rfl
              clear hold hφ hcl hkp hd
              rw [if_pos (by rfl)]
              go_simp
              exact hK _ _ (Only.refl _ _) rfl
            · intro a W L N hR hold hφ hcl hkp hd K hK
              have e0 := hold 0 (by kernel_rfl)
              have e20 := got hφ (hd 7 (by kernel_rfl)) rfl rfl rfl
              clear hold hφ hcl hkp hd
              rw [if_pos (by simp [Region.wanted, yielded, e20])]
              go_simp
              exact hK _ _ (Only.refl _ _) rfl
            · intro a W L N hR hold hφ hcl hkp hd K hK
              have e3 := hold 3 (by kernel_rfl)
              have e20 := got hφ (hd 7 (by kernel_rfl)) rfl rfl rfl
              clear hold hφ hcl hkp hd
              rw [if_pos (by simp [Region.wanted, yielded, e20])]
              go_simp
              exact hK _ _ (Only.refl _ _) rfl
            · intro a W L N hR hold hφ hcl hkp hd K hK
              have e21 := got hφ (hd 8 (by kernel_rfl)) rfl rfl rfl
              have e22 := got hφ (hd 9 (by kernel_rfl)) rfl rfl rfl
              have e20 := got hφ (hd 7 (by kernel_rfl)) rfl rfl rfl
              clear hold hφ hcl hkp hd
              rw [if_pos (by simp [Region.wanted, yielded, e20])]
              have hjl := hlti
              go_simp
              exact hK _ _ (Only.refl _ _) rfl
            · intro a W L N hR hold hφ hcl hkp hd K hK
              have e23 := got hφ (hd 10 (by kernel_rfl)) rfl rfl rfl
              have e20 := got hφ (hd 7 (by kernel_rfl)) rfl rfl rfl
              clear hold hφ hcl hkp hd
              rw [if_pos (by simp [Region.wanted, yielded, e20])]
              go_simp
              exact hK _ _ (Only.refl _ _) rfl
            · intro a W L N hR hold hφ hcl hkp hd K hK
              have e24 := got hφ (hd 11 (by kernel_rfl)) rfl rfl rfl
              have e20 := got hφ (hd 7 (by kernel_rfl)) rfl rfl rfl
              have hld : W.cell? ⟨b, o + j * 2 + 1, none⟩ = some (.string ⟨ft.toArray⟩) := ((((Only.refl [] wr).drew).plus hR).cell (p := ⟨b, _, none⟩) hb (by simp)).trans c1
              clear hold hφ hcl hkp hd
              rw [if_pos (by simp [Region.wanted, yielded, e20])]
              go_simp
              exact hK _ _ (Only.refl _ _) rfl
            · intro a W L N hR hold hφ hcl hkp hd K hK
              have e25 := got hφ (hd 12 (by kernel_rfl)) rfl rfl rfl
              have e20 := got hφ (hd 7 (by kernel_rfl)) rfl rfl rfl
              clear hold hφ hcl hkp hd
              rw [if_pos (by simp [Region.wanted, yielded, e20])]
              go_simp
              exact hK _ _ (Only.refl _ _) rfl
            · intro a W L N hR hold hφ hcl hkp hd K hK
              have e26 := got hφ (hd 13 (by kernel_rfl)) rfl rfl rfl
              have e20 := got hφ (hd 7 (by kernel_rfl)) rfl rfl rfl
              clear hold hφ hcl hkp hd
              rw [if_pos (by simp [Region.wanted, yielded, e20])]
              have hft := Hft.out
              go_simp
              exact hK _ _ (Only.refl _ _) rfl
            · intro a W L N hR hold hφ hcl hkp hd K hK
              have e20 := got hφ (hd 7 (by kernel_rfl)) rfl rfl rfl
              have e27 := got hφ (hd 14 (by kernel_rfl)) rfl rfl rfl
              clear hold hφ hcl hkp hd
              rw [if_pos (by rfl)]
              go_simp
              exact hK _ _ (Only.refl _ _) rfl
            · intro a W L N hR hold hφ hcl hkp hd K hK
              have e28 := got hφ (hd 15 (by kernel_rfl)) rfl rfl rfl
              clear hold hφ hcl hkp hd
              rw [if_pos (by rfl)]
              go_simp
              exact hK _ _ (Only.refl _ _) rfl
            · intro a W L N hR hold hφ hcl hkp hd K hK
              have e0 := hold 0 (by kernel_rfl)
              have e29 := got hφ (hd 16 (by kernel_rfl)) rfl rfl rfl
              clear hold hφ hcl hkp hd
              rw [if_neg (by simp [Region.wanted, yielded, e29])]
              exact hK _ _ (Only.refl _ _) rfl
            · intro a W L N hR hold hφ hcl hkp hd K hK
              have e3 := hold 3 (by kernel_rfl)
              have e29 := got hφ (hd 16 (by kernel_rfl)) rfl rfl rfl
              clear hold hφ hcl hkp hd
              rw [if_neg (by simp [Region.wanted, yielded, e29])]
              exact hK _ _ (Only.refl _ _) rfl
            · intro a W L N hR hold hφ hcl hkp hd K hK
              have e30 := got hφ (hd 17 (by kernel_rfl)) rfl rfl rfl
              have e31 := got hφ (hd 18 (by kernel_rfl)) rfl rfl rfl
              have e29 := got hφ (hd 16 (by kernel_rfl)) rfl rfl rfl
              clear hold hφ hcl hkp hd
              rw [if_neg (by simp [Region.wanted, yielded, e29])]
              exact hK _ _ (Only.refl _ _) rfl
            · intro a W L N hR hold hφ hcl hkp hd K hK
              have e0 := hold 0 (by kernel_rfl)
              have e29 := got hφ (hd 16 (by kernel_rfl)) rfl rfl rfl
              clear hold hφ hcl hkp hd
              rw [if_neg (by simp [Region.wanted, yielded, e29])]
              exact hK _ _ (Only.refl _ _) rfl
            · intro a W L N hR hold hφ hcl hkp hd K hK
              have e3 := hold 3 (by kernel_rfl)
              have e29 := got hφ (hd 16 (by kernel_rfl)) rfl rfl rfl
              clear hold hφ hcl hkp hd
              rw [if_neg (by simp [Region.wanted, yielded, e29])]
              exact hK _ _ (Only.refl _ _) rfl
            · intro a W L N hR hold hφ hcl hkp hd K hK
              have e33 := got hφ (hd 20 (by kernel_rfl)) rfl rfl rfl
              have e34 := got hφ (hd 21 (by kernel_rfl)) rfl rfl rfl
              have e29 := got hφ (hd 16 (by kernel_rfl)) rfl rfl rfl
              clear hold hφ hcl hkp hd
              rw [if_neg (by simp [Region.wanted, yielded, e29])]
              exact hK _ _ (Only.refl _ _) rfl
            · intro a W L N hR hold hφ hcl hkp hd K hK
              have e35 := got hφ (hd 22 (by kernel_rfl)) rfl rfl rfl
              have e29 := got hφ (hd 16 (by kernel_rfl)) rfl rfl rfl
              clear hold hφ hcl hkp hd
              rw [if_neg (by simp [Region.wanted, yielded, e29])]
              exact hK _ _ (Only.refl _ _) rfl
            · intro a W L N hR hold hφ hcl hkp hd K hK
              have e36 := got hφ (hd 23 (by kernel_rfl)) rfl rfl rfl
              have e29 := got hφ (hd 16 (by kernel_rfl)) rfl rfl rfl
              clear hold hφ hcl hkp hd
              rw [if_neg (by simp [Region.wanted, yielded, e29])]
              exact hK _ _ (Only.refl _ _) rfl
            · intro a W L N hR hold hφ hcl hkp hd K hK
              have e32 := got hφ (hd 19 (by kernel_rfl)) rfl rfl rfl
              have e37 := got hφ (hd 24 (by kernel_rfl)) rfl rfl rfl
              have e29 := got hφ (hd 16 (by kernel_rfl)) rfl rfl rfl
              clear hold hφ hcl hkp hd
              rw [if_neg (by simp [Region.wanted, yielded, e29])]
              exact hK _ _ (Only.refl _ _) rfl
            · intro a W L N hR hold hφ hcl hkp hd K hK
              have e38 := got hφ (hd 25 (by kernel_rfl)) rfl rfl rfl
              have e29 := got hφ (hd 16 (by kernel_rfl)) rfl rfl rfl
              clear hold hφ hcl hkp hd
              rw [if_neg (by simp [Region.wanted, yielded, e29])]
              exact hK _ _ (Only.refl _ _) rfl
            · intro a W L N hR hold hφ hcl hkp hd K hK
              have e29 := got hφ (hd 16 (by kernel_rfl)) rfl rfl rfl
              have e39 := got hφ (hd 26 (by kernel_rfl)) rfl rfl rfl
              clear hold hφ hcl hkp hd
              rw [if_pos (by rfl)]
              go_simp
              exact hK _ _ (Only.refl _ _) rfl
          · intro us W hO' hus
            have p27 : us 27 = .bool true := hus 27 _ 40 (by omega) rfl rfl
            clear hus
            simp only [List.take_succ_cons, List.take_zero, List.drop_succ_cons, List.drop_zero, fillAct, Act.put, List.setIfInBounds_toArray, List.set_cons_zero, List.set_cons_succ, Nat.reduceAdd, p27]
            clear p27
            have HO4 := Lib.hid (HO.out.plus (((Only.refl [] wr).drew).plus hO'))
            clear hO'
            go_wp2
            go_ret
            exact ⟨congrArg (fun b => Ending.returned (.bool b)) Hno.out.symm, HO4.out⟩
        · have Hft : Hid (¬ (2000 : Int) < (ft.length : Int)) := Lib.hid (by omega)
          obtain ⟨ib, hib⟩ : ∃ ib, decide (fn ∈ (l.take j).map (·.1)) = ib := ⟨_, rfl⟩
          have Hib : Hid (∀ r : Int, (r < 0 ↔ fn ∉ (l.take j).map (·.1)) → decide (0 ≤ r) = ib) := Lib.hid (fun r hr => by
            rw [← hib]
            refine decide_eq_decide.2 ⟨fun h => ?_, fun hm => ?_⟩
            · by_cases hm : fn ∈ (l.take j).map (·.1)
              · exact hm
              · exact absurd (hr.2 hm) (by omega)
            · by_cases h : r < 0
              · exact absurd hm (hr.1 h)
              · omega)
          have HibE := Lib.hid hib
          clear hib
          go_upto_region 6 with fail
          refine wp_region_stabL (P := Tryz.prog) 28 (by kernel_rfl) (by kernel_rfl) (Only []) (Only.refl _ _) (fun _ _ _ h k => h.then k [] (by simp) (by simp))
            [SP.is (.slice (some ⟨b, o, none⟩) l.length cap),
             SP.is (.int .i64 j),
             SP.is (.pointer (some ⟨b, o + j * 2, none⟩)),
             SP.is (.pointer (some ⟨b, o + j * 2, none⟩)),
             SP.is (.string ⟨fn.toArray⟩),
             SP.is (.bool true),
             SP.is (.bool false),
             SP.is (.bool false),
             SP.is (.slice (some ⟨b, o, none⟩) l.length cap),
             SP.is (.int .i64 j),
             SP.is (.pointer (some ⟨b, o + j * 2, none⟩)),
             SP.is (.pointer (some ⟨b, o + j * 2 + 1, none⟩)),
             SP.is (.string ⟨ft.toArray⟩),
             SP.is (.int .i64 (ft.length : Nat)),
             SP.is (.bool false),
             SP.is (.bool false),
             SP.is (.bool false),
             SP.is (.slice (some ⟨b, o, none⟩) l.length cap),
             SP.is (.int .i64 j),
             SP.is (.slice (some ⟨b, o, none⟩) j cap),
             SP.is (.slice (some ⟨b, o, none⟩) l.length cap),
             SP.is (.int .i64 j),
             SP.is (.pointer (some ⟨b, o + j * 2, none⟩)),
             SP.is (.pointer (some ⟨b, o + j * 2, none⟩)),
             SP.is (.string ⟨fn.toArray⟩),
             ⟨fun v W => ∃ r : Int, v = .int .i64 r ∧ decide (0 ≤ r) = ib, fun _ _ _ h _ => h⟩,
             SP.is (.bool ib),
             SP.is (.bool ib)] ?_ ?_
          · simp only [List.take_succ_cons, List.take_zero]
            refine StepsOK.cons ?_ (StepsOK.cons ?_ (StepsOK.cons ?_ (StepsOK.cons ?_ (StepsOK.cons ?_ (StepsOK.cons ?_ (StepsOK.cons ?_ (StepsOK.cons ?_ (StepsOK.cons ?_ (StepsOK.cons ?_ (StepsOK.cons ?_ (StepsOK.cons ?_ (StepsOK.cons ?_ (StepsOK.cons ?_ (StepsOK.cons ?_ (StepsOK.cons ?_ (StepsOK.cons ?_ (StepsOK.cons ?_ (StepsOK.cons ?_ (StepsOK.cons ?_ (StepsOK.cons ?_ (StepsOK.cons ?_ (StepsOK.cons ?_ (StepsOK.cons ?_ (StepsOK.cons ?_ (StepsOK.cons ?_ (StepsOK.cons ?_ (StepsOK.cons ?_ StepsOK.nil)))))))))))))))))))))))))))
            · intro a W L N hR hold hφ hcl hkp hd K hK
              have e0 := hold 0 (by kernel_rfl)
              clear hold hφ hcl hkp hd
              rw [if_pos (by rfl)]
              go_simp
              exact hK _ _ (Only.refl _ _) rfl
            · intro a W L N hR hold hφ hcl hkp hd K hK
              have e3 := hold 3 (by kernel_rfl)
              clear hold hφ hcl hkp hd
              rw [if_pos (by rfl)]
              go_simp
              exact hK _ _ (Only.refl _ _) rfl
            · intro a W L N hR hold hφ hcl hkp hd K hK
              have e13 := got hφ (hd 0 (by kernel_rfl)) rfl rfl rfl
              have e14 := got hφ (hd 1 (by kernel_rfl)) rfl rfl rfl
              clear hold hφ hcl hkp hd
              rw [if_pos (by rfl)]
              have hjl := hlti
              go_simp
              exact hK _ _ (Only.refl _ _) rfl
            · intro a W L N hR hold hφ hcl hkp hd K hK
              have e15 := got hφ (hd 2 (by kernel_rfl)) rfl rfl rfl
              clear hold hφ hcl hkp hd
              rw [if_pos (by rfl)]
              go_simp
              exact hK _ _ (Only.refl _ _) rfl
            · intro a W L N hR hold hφ hcl hkp hd K hK
              have e16 := got hφ (hd 3 (by kernel_rfl)) rfl rfl rfl
              have hld : W.cell? ⟨b, o + j * 2, none⟩ = some (.string ⟨fn.toArray⟩) := ((((Only.refl [] wr).drew).plus hR).cell (p := ⟨b, _, none⟩) hb (by simp)).trans c0
              clear hold hφ hcl hkp hd
              rw [if_pos (by rfl)]
              go_simp
              exact hK _ _ (Only.refl _ _) rfl
            · intro a W L N hR hold hφ hcl hkp hd K hK
              have e17 := got hφ (hd 4 (by kernel_rfl)) rfl rfl rfl
              clear hold hφ hcl hkp hd
              rw [if_pos (by rfl)]
              go_simp
              refine (rname4_any W fn hfn).mono ?_
              rintro e w' ⟨rfl, hO⟩
              rw [Hnm.out]
              exact hK _ _ hO rfl
            · intro a W L N hR hold hφ hcl hkp hd K hK
              have e18 := got hφ (hd 5 (by kernel_rfl)) rfl rfl rfl
              clear hold hφ hcl hkp hd
              rw [if_pos (by rfl)]
              go_simp
              exact hK _ _ (Only.refl _ _) rfl
            · intro a W L N hR hold hφ hcl hkp hd K hK
              have e19 := got hφ (hd 6 (by kernel_rfl)) rfl rfl rfl
              clear hold hφ hcl hkp hd
              rw [if_pos (by rfl)]
              go_simp
              exact hK _ _ (Only.refl _ _) rfl
            · intro a W L N hR hold hφ hcl hkp hd K hK
              have e0 := hold 0 (by kernel_rfl)
              have e20 := got hφ (hd 7 (by kernel_rfl)) rfl rfl rfl
              clear hold hφ hcl hkp hd
              rw [if_pos (by simp [Region.wanted, yielded, e20])]
              go_simp
              exact hK _ _ (Only.refl _ _) rfl
            · intro a W L N hR hold hφ hcl hkp hd K hK
              have e3 := hold 3 (by kernel_rfl)
              have e20 := got hφ (hd 7 (by kernel_rfl)) rfl rfl rfl
              clear hold hφ hcl hkp hd
              rw [if_pos (by simp [Region.wanted, yielded, e20])]
              go_simp
              exact hK _ _ (Only.refl _ _) rfl
            · intro a W L N hR hold hφ hcl hkp hd K hK
              have e21 := got hφ (hd 8 (by kernel_rfl)) rfl rfl rfl
              have e22 := got hφ (hd 9 (by kernel_rfl)) rfl rfl rfl
              have e20 := got hφ (hd 7 (by kernel_rfl)) rfl rfl rfl
              clear hold hφ hcl hkp hd
              rw [if_pos (by simp [Region.wanted, yielded, e20])]
              have hjl := hlti
              go_simp
              exact hK _ _ (Only.refl _ _) rfl
            · intro a W L N hR hold hφ hcl hkp hd K hK
              have e23 := got hφ (hd 10 (by kernel_rfl)) rfl rfl rfl
              have e20 := got hφ (hd 7 (by kernel_rfl)) rfl rfl rfl
              clear hold hφ hcl hkp hd
              rw [if_pos (by simp [Region.wanted, yielded, e20])]
              go_simp
              exact hK _ _ (Only.refl _ _) rfl
            · intro a W L N hR hold hφ hcl hkp hd K hK
              have e24 := got hφ (hd 11 (by kernel_rfl)) rfl rfl rfl
              have e20 := got hφ (hd 7 (by kernel_rfl)) rfl rfl rfl
              have hld : W.cell? ⟨b, o + j * 2 + 1, none⟩ = some (.string ⟨ft.toArray⟩) := ((((Only.refl [] wr).drew).plus hR).cell (p := ⟨b, _, none⟩) hb (by simp)).trans c1
              clear hold hφ hcl hkp hd
              rw [if_pos (by simp [Region.wanted, yielded, e20])]
              go_simp
              exact hK _ _ (Only.refl _ _) rfl
            · intro a W L N hR hold hφ hcl hkp hd K hK
              have e25 := got hφ (hd 12 (by kernel_rfl)) rfl rfl rfl
              have e20 := got hφ (hd 7 (by kernel_rfl)) rfl rfl rfl
              clear hold hφ hcl hkp hd
              rw [if_pos (by simp [Region.wanted, yielded, e20])]
              go_simp
              exact hK _ _ (Only.refl _ _) rfl
            · intro a W L N hR hold hφ hcl hkp hd K hK
              have e26 := got hφ (hd 13 (by kernel_rfl)) rfl rfl rfl
              have e20 := got hφ (hd 7 (by kernel_rfl)) rfl rfl rfl
              clear hold hφ hcl hkp hd
              rw [if_pos (by simp [Region.wanted, yielded, e20])]
              have hft := Hft.out
              go_simp
              exact hK _ _ (Only.refl _ _) rfl
            · intro a W L N hR hold hφ hcl hkp hd K hK
              have e20 := got hφ (hd 7 (by kernel_rfl)) rfl rfl rfl
              have e27 := got hφ (hd 14 (by kernel_rfl)) rfl rfl rfl
              clear hold hφ hcl hkp hd
              rw [if_pos (by rfl)]
              go_simp
              exact hK _ _ (Only.refl _ _) rfl
            · intro a W L N hR hold hφ hcl hkp hd K hK
              have e28 := got hφ (hd 15 (by kernel_rfl)) rfl rfl rfl
              clear hold hφ hcl hkp hd
              rw [if_pos (by rfl)]
              go_simp
              exact hK _ _ (Only.refl _ _) rfl
            · intro a W L N hR hold hφ hcl hkp hd K hK
              have e0 := hold 0 (by kernel_rfl)
              have e29 := got hφ (hd 16 (by kernel_rfl)) rfl rfl rfl
              clear hold hφ hcl hkp hd
              rw [if_pos (by simp [Region.wanted, yielded, e29])]
              go_simp
              exact hK _ _ (Only.refl _ _) rfl
            · intro a W L N hR hold hφ hcl hkp hd K hK
              have e3 := hold 3 (by kernel_rfl)
              have e29 := got hφ (hd 16 (by kernel_rfl)) rfl rfl rfl
              clear hold hφ hcl hkp hd
              rw [if_pos (by simp [Region.wanted, yielded, e29])]
              go_simp
              exact hK _ _ (Only.refl _ _) rfl
            · intro a W L N hR hold hφ hcl hkp hd K hK
              have e30 := got hφ (hd 17 (by kernel_rfl)) rfl rfl rfl
              have e31 := got hφ (hd 18 (by kernel_rfl)) rfl rfl rfl
              have e29 := got hφ (hd 16 (by kernel_rfl)) rfl rfl rfl
              clear hold hφ hcl hkp hd
              rw [if_pos (by simp [Region.wanted, yielded, e29])]
              have hjc := Hjc.out
              go_simp
              exact hK _ _ (Only.refl _ _) rfl
            · intro a W L N hR hold hφ hcl hkp hd K hK
              have e0 := hold 0 (by kernel_rfl)
              have e29 := got hφ (hd 16 (by kernel_rfl)) rfl rfl rfl
              clear hold hφ hcl hkp hd
              rw [if_pos (by simp [Region.wanted, yielded, e29])]
              go_simp
              exact hK _ _ (Only.refl _ _) rfl
            · intro a W L N hR hold hφ hcl hkp hd K hK
              have e3 := hold 3 (by kernel_rfl)
              have e29 := got hφ (hd 16 (by kernel_rfl)) rfl rfl rfl
              clear hold hφ hcl hkp hd
              rw [if_pos (by simp [Region.wanted, yielded, e29])]
              go_simp
              exact hK _ _ (Only.refl _ _) rfl
            · intro a W L N hR hold hφ hcl hkp hd K hK
              have e33 := got hφ (hd 20 (by kernel_rfl)) rfl rfl rfl
              have e34 := got hφ (hd 21 (by kernel_rfl)) rfl rfl rfl
              have e29 := got hφ (hd 16 (by kernel_rfl)) rfl rfl rfl
              clear hold hφ hcl hkp hd
              rw [if_pos (by simp [Region.wanted, yielded, e29])]
              have hjl := hlti
              go_simp
              exact hK _ _ (Only.refl _ _) rfl
            · intro a W L N hR hold hφ hcl hkp hd K hK
              have e35 := got hφ (hd 22 (by kernel_rfl)) rfl rfl rfl
              have e29 := got hφ (hd 16 (by kernel_rfl)) rfl rfl rfl
              clear hold hφ hcl hkp hd
              rw [if_pos (by simp [Region.wanted, yielded, e29])]
              go_simp
              exact hK _ _ (Only.refl _ _) rfl
            · intro a W L N hR hold hφ hcl hkp hd K hK
              have e36 := got hφ (hd 23 (by kernel_rfl)) rfl rfl rfl
              have e29 := got hφ (hd 16 (by kernel_rfl)) rfl rfl rfl
              have hld : W.cell? ⟨b, o + j * 2, none⟩ = some (.string ⟨fn.toArray⟩) := ((((Only.refl [] wr).drew).plus hR).cell (p := ⟨b, _, none⟩) hb (by simp)).trans c0
              clear hold hφ hcl hkp hd
              rw [if_pos (by simp [Region.wanted, yielded, e29])]
              go_simp
              exact hK _ _ (Only.refl _ _) rfl
            · intro a W L N hR hold hφ hcl hkp hd K hK
              have e32 := got hφ (hd 19 (by kernel_rfl)) rfl rfl rfl
              have e37 := got hφ (hd 24 (by kernel_rfl)) rfl rfl rfl
              have e29 := got hφ (hd 16 (by kernel_rfl)) rfl rfl rfl
              clear hold hφ hcl hkp hd
              rw [if_pos (by simp [Region.wanted, yielded, e29])]
              go_simp
              refine (at_any W (some ⟨b, o, none⟩) j cap (l.take j) fn (Htake.out W (((Only.refl [] wr).drew).plus hR)) (by omega)).mono ?_
              rintro e w' ⟨r, rfl, hr, rfl⟩
              exact hK _ _ (Only.refl _ _) ⟨r, rfl, Hib.out r hr⟩
            · intro a W L N hR hold hφ hcl hkp hd K hK
              have e29 := got hφ (hd 16 (by kernel_rfl)) rfl rfl rfl
              obtain ⟨u38, e38, r, p38, s38⟩ := gotP hφ (hd 25 (by kernel_rfl)) rfl rfl rfl
              have p38 : u38 = .int .i64 r := p38
              subst p38
              have hdec : decide (0 ≤ r) = ib := s38
              clear hold hφ hcl hkp hd
              rw [if_pos (by simp [Region.wanted, yielded, e29])]
              clear s38
              go_simp
              exact hK _ _ (Only.refl _ _) rfl
            · intro a W L N hR hold hφ hcl hkp hd K hK
              have e29 := got hφ (hd 16 (by kernel_rfl)) rfl rfl rfl
              have e39 := got hφ (hd 26 (by kernel_rfl)) rfl rfl rfl
              clear hold hφ hcl hkp hd
              rw [if_pos (by rfl)]
              go_simp
              exact hK _ _ (Only.refl _ _) rfl
          · intro us W hO' hus
            have p27 : us 27 = .bool ib := hus 27 _ 40 (by omega) rfl rfl
            clear hus
            simp only [List.take_succ_cons, List.take_zero, List.drop_succ_cons, List.drop_zero, fillAct, Act.put, List.setIfInBounds_toArray, List.set_cons_zero, List.set_cons_succ, Nat.reduceAdd, p27]
            clear p27
            have HO4 := Lib.hid (HO.out.plus (((Only.refl [] wr).drew).plus hO'))
            clear hO'
            by_cases hin : fn ∈ (l.take j).map (·.1)
            · have Hno := Lib.hid (Hbad.out (j + 1) (by omega) (fun hk => (Hstep.out.1 hk).2.2.2 hin))
              obtain rfl : ib = true := by rw [← HibE.out]; exact decide_eq_true hin
              clear hin
              go_wp2
              go_ret
              exact ⟨congrArg (fun b => Ending.returned (.bool b)) Hno.out.symm, HO4.out⟩
            · have Hok := Lib.hid (Hstep.out.2 ⟨hok.out, Hnm.out, by omega, hin⟩)
              obtain rfl : ib = false := by rw [← HibE.out]; exact decide_eq_false hin
              clear hin
              go_wp2
              go_roundw
              case rel => exact ⟨j + 1, by omega, by go_num, Hok, HO4.out⟩
              case measure => simp [intOf]; omega
    · have hge : ¬ (j : Int) < (l.length : Int) := by omega
      have hjl : j = l.length := by omega
      subst hjl
      have Hs := Lib.hid (Hgood.out hok.out)
      go_wp2
      go_ret
      exact ⟨congrArg (fun b => Ending.returned (.bool b)) Hs.out.symm, HO.out⟩

end Go.Proofs.YtgmkgpbhgoileaaGreat
