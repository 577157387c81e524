/-
  The laws' helper Few; the document's own At and Same of files.
-/
import Derived.Test.YtnieaeoijdmheaaStL
namespace Go.Proofs.Ytnieaeoijdmheaa
set_option maxRecDepth 100000
set_option linter.unusedVariables false
open Go.RowKit Go.Sort Go.Maps

theorem OwnF.files {w : World} {base : Nat} {v : Value} {l : List FileM} (h : OwnF w base v l) : ∃ a cap, v = .slice a l.length cap ∧ FilesAt w a l.length l ∧ (∀ b o, a = some ⟨b, o, none⟩ → base ≤ b) := by
  rcases h.2 with ⟨rfl, h0⟩ | ⟨g, cap, cur, rfl, hb, hg, _⟩
  · exact ⟨none, 0, by rw [h0], ⟨rfl, fun hp => by omega⟩, by simp⟩
  · refine ⟨some ⟨g, 0, none⟩, cap, rfl, ⟨rfl, fun _ => ⟨g, 0, rfl, IsBlk.lt hg, fun i f hi => ?_⟩⟩, fun b o e => by injection e with e; injection e with e1 e2; omega⟩
    have hlt := (List.getElem?_eq_some_iff.1 hi).1
    obtain ⟨g', cap', e, c0, c1⟩ := h.cells hlt
    injection e with e1 e2 e3
    injection e1 with e1; injection e1 with e1 _
    subst e1
    have e := (List.getElem?_eq_some_iff.1 hi).2
    rw [Nat.zero_add, ← e]
    exact ⟨c0, c1⟩

def Few4To (w : World) (l : List FileM) (e : Ending) (w' : World) : Prop := ∃ b : Bool, e = .returned (.bool b) ∧ w = w' ∧ (b = true → l.length ≤ 12 ∧ ∀ f ∈ l, f.1.length ≤ 30 ∧ f.2.length ≤ 2500)

set_option maxHeartbeats 2000000 in
theorem few4_any (w : World) (a : Option Addr) (len cap : Nat) (l : List FileM) (h : FilesAt w a len l) (hm : ∀ f ∈ l, f.1.length ≤ maxLen ∧ f.2.length ≤ maxLen) (hml : len ≤ maxLen) : Calls Try.prog 13 #[.slice a len cap] w (Few4To w l) := by
  unfold maxLen at hml
  have H := Lib.hid h
  have Hm := Lib.hid hm
  obtain rfl := h.1
  clear h hm
  go_enter Try.func13, Try.ntmps13
  go_wp2_with fail
  go_loop [3] (fun i => ∃ k : Nat, k ≤ l.length ∧ i = .int .i64 k ∧ Hid (∀ f ∈ l.take k, f.1.length ≤ 30 ∧ f.2.length ≤ 2500)) (fun i => l.length - (intOf i).toNat)
  case atStart => exact ⟨0, Nat.zero_le _, rfl, Lib.hid (by simp)⟩
  case round =>
    obtain ⟨k, hk, rfl, hall⟩ := hrel
    by_cases hlt : k < l.length
    · have hlti : (k : Int) < (l.length : Int) := by omega
      obtain ⟨b, o, rfl, hb, hc⟩ := H.out.2 (by omega)
      obtain ⟨c0, c1⟩ := hc k _ (List.getElem?_eq_getElem hlt)
      have Htk : Hid (l.take (k + 1) = l.take k ++ [l[k]]) := Lib.hid (by rw [List.take_add_one, List.getElem?_eq_getElem hlt]; rfl)
      have hbig := Hm.out l[k] (List.getElem_mem hlt)
      unfold maxLen at hbig
      generalize l[k] = f at *
      obtain ⟨fn, ft⟩ := f
      unfold encStr at c0 c1
      simp only at c0 c1 hbig
      clear hc
      by_cases h30 : (30 : Int) < (fn.length : Int)
      · go_wp2
        go_ret
        exact ⟨_, rfl, rfl, fun h => by cases h⟩
      · by_cases h25 : (2500 : Int) < (ft.length : Int)
        · go_wp2
          go_ret
          exact ⟨_, rfl, rfl, fun h => by cases h⟩
        · go_wp2
          go_round
          case rel =>
            refine ⟨k + 1, by omega, by go_num, Lib.hid (fun f hf => ?_)⟩
            rw [Htk.out] at hf
            rcases List.mem_append.1 hf with h1 | h1
            · exact hall.out f h1
            · simp at h1; subst h1; exact ⟨by simp only; omega, by simp only; omega⟩
          case measure => simp [intOf]; omega
    · have hge : ¬ (k : Int) < (l.length : Int) := by omega
      go_wp2
      go_ret
      refine ⟨_, rfl, rfl, fun hb => ⟨?_, fun f hf => hall.out f ?_⟩⟩
      · have : (l.length : Int) ≤ 12 := by simpa using hb
        omega
      · rw [show k = l.length by omega, List.take_length]; exact hf

def AtTo (w : World) (n : List UInt8) (l : List FileM) (e : Ending) (w' : World) : Prop := ∃ r : Int, e = .returned (.int .i64 r) ∧ (r < 0 ↔ n ∉ l.map (·.1)) ∧ w = w'

set_option maxHeartbeats 2000000 in
theorem at_any (w : World) (a : Option Addr) (len cap : Nat) (l : List FileM) (n : List UInt8) (h : FilesAt w a len l) (hml : len ≤ 1000000) : Calls Try.prog 28 #[.slice a len cap, encStr n] w (AtTo w n l) := by
  have H := Lib.hid h
  obtain rfl := h.1
  clear h
  unfold encStr
  go_enter Try.func28, Try.ntmps28
  go_wp2_with fail
  go_loop [5] (fun i => ∃ k : Nat, k ≤ l.length ∧ i = .int .i64 k ∧ Hid (n ∉ (l.take k).map (·.1))) (fun i => l.length - (intOf i).toNat)
  case atStart => exact ⟨0, Nat.zero_le _, rfl, Lib.hid (by simp)⟩
  case round =>
    obtain ⟨k, hk, rfl, hall⟩ := hrel
    by_cases hlt : k < l.length
    · have hlti : (k : Int) < (l.length : Int) := by omega
      obtain ⟨b, o, rfl, hb, hc⟩ := H.out.2 (by omega)
      obtain ⟨c0, c1⟩ := hc k _ (List.getElem?_eq_getElem hlt)
      have Htk : Hid (l.take (k + 1) = l.take k ++ [l[k]]) := Lib.hid (by rw [List.take_add_one, List.getElem?_eq_getElem hlt]; rfl)
      have Hin : Hid (l[k].1 ∈ l.map (·.1)) := Lib.hid (List.mem_map.2 ⟨_, List.getElem_mem hlt, rfl⟩)
      generalize l[k] = f at *
      obtain ⟨fn, ft⟩ := f
      unfold encStr at c0 c1
      simp only at c0 c1 Hin
      clear hc
      by_cases he : fn = n
      · subst he
        go_wp2
        go_ret
        exact ⟨_, rfl, ⟨fun h => by omega, fun h => absurd Hin.out h⟩, rfl⟩
      · have heb : (fn == n) = false := by simpa using he
        go_wp2
        go_round
        case rel =>
          refine ⟨k + 1, by omega, by go_num, Lib.hid (fun hm => ?_)⟩
          rw [Htk.out, List.map_append] at hm
          rcases List.mem_append.1 hm with h1 | h1
          · exact hall.out h1
          · simp at h1; exact he h1.symm
        case measure => simp [intOf]; omega
    · have hge : ¬ (k : Int) < (l.length : Int) := by omega
      go_wp2
      go_ret
      have := hall.out
      rw [show k = l.length by omega, List.take_length] at this
      exact ⟨_, rfl, ⟨fun _ => this, fun _ => by omega⟩, rfl⟩

set_option maxHeartbeats 2000000 in
theorem same4_any (w : World) (a b : Option Addr) (ca cb : Nat) (l m : List FileM) (h : FilesAt w a l.length l) (k : FilesAt w b m.length m) (hml : l.length ≤ 1000000) :
    Calls Try.prog 15 #[.slice a l.length ca, .slice b m.length cb] w fun e w' => e = .returned (.bool (decide (l = m))) ∧ Only [] w w' := by
  have H := Lib.hid h
  have K := Lib.hid k
  clear h k
  by_cases hne : l.length = m.length
  · have hnei : (l.length : Int) = (m.length : Int) := by omega
    have Hne := Lib.hid hne
    clear hne
    go_enter Try.func15, Try.ntmps15
    go_wp2_with fail
    go_loopw [5] (fun i wr => ∃ j : Nat, j ≤ l.length ∧ i = .int .i64 j ∧ Hid (l.take j = m.take j) ∧ Only [] w wr) (fun i _ => l.length - (intOf i).toNat)
    case atStart => exact ⟨0, Nat.zero_le _, rfl, Lib.hid rfl, Only.refl _ _⟩
    case round =>
      obtain ⟨j, hj, rfl, hall, hO⟩ := hrel
      have HO := Lib.hid hO
      clear hO
      by_cases hlt : j < l.length
      · have hlti : (j : Int) < (l.length : Int) := by omega
        have hltm : j < m.length := by have := Hne.out; omega
        have hltmi : (j : Int) < (m.length : Int) := by omega
        obtain ⟨ba, oa, rfl, hba, hca⟩ := (H.out.more HO.out).2 (by omega)
        obtain ⟨bb, ob, rfl, hbb, hcb⟩ := (K.out.more HO.out).2 (by omega)
        obtain ⟨c0, c1⟩ := hca j _ (List.getElem?_eq_getElem hlt)
        obtain ⟨d0, d1⟩ := hcb j _ (List.getElem?_eq_getElem hltm)
        have Hl : Hid (l.take (j + 1) = l.take j ++ [l[j]]) := Lib.hid (by rw [List.take_add_one, List.getElem?_eq_getElem hlt]; rfl)
        have Hm : Hid (m.take (j + 1) = m.take j ++ [m[j]]) := Lib.hid (by rw [List.take_add_one, List.getElem?_eq_getElem hltm]; rfl)
        have Hbad : Hid (¬ l[j] = m[j] → ¬ l = m) := Lib.hid (fun hn e => hn (by subst e; rfl))
        generalize l[j] = f at *
        generalize m[j] = g at *
        obtain ⟨fn, ft⟩ := f
        obtain ⟨gn, gt⟩ := g
        unfold encStr at c0 c1 d0 d1
        simp only at c0 c1 d0 d1
        clear hca hcb
        by_cases e1 : fn = gn
        · subst e1
          by_cases e2 : ft = gt
          · subst e2
            go_wp2_with fail
            go_quiet (fail)
            go_wp2
            go_roundw
            case rel => exact ⟨j + 1, by omega, by go_num, Lib.hid (by rw [Hl.out, Hm.out, hall.out]), HO.out.plus ((Only.refl [] wr).drewN _)⟩
            case measure => simp [intOf]; omega
          · go_wp2_with fail
            go_quiet (fail)
            go_wp2
            go_ret
            have := Hbad.out (fun e => by injection e with e3 e4; exact e2 e4)
            exact ⟨by simp [this], HO.out.plus ((Only.refl [] wr).drewN _)⟩
        · go_wp2_with fail
          go_quiet (fail)
          go_wp2
          go_ret
          have := Hbad.out (fun e => by injection e with e3 e4; exact e1 e3)
          exact ⟨by simp [this], HO.out.plus ((Only.refl [] wr).drewN _)⟩
      · have hge : ¬ (j : Int) < (l.length : Int) := by omega
        go_wp2
        go_ret
        have h1 := hall.out
        have h2 := Hne.out
        rw [show j = l.length by omega, List.take_length, h2, List.take_length] at h1
        exact ⟨by simp [h1], HO.out⟩
  · have hnei : ¬ (l.length : Int) = (m.length : Int) := by omega
    go_enter Try.func15, Try.ntmps15
    go_wp2
    go_ret
    have : ¬ l = m := fun e => hne (by rw [e])
    exact ⟨by simp [this], Only.refl _ _⟩

end Go.Proofs.Ytnieaeoijdmheaa
