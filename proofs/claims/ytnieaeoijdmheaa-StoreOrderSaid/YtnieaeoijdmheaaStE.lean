/-
  A set of files made of a row of them, or none, where they are not sound (setOf).
-/
import Derived.Test.YtnieaeoijdmheaaStD
namespace Go.Proofs.Ytnieaeoijdmheaa
set_option maxRecDepth 100000
set_option linter.unusedVariables false
open Go.RowKit Go.Sort Go.Maps

/-- Files in a row. -/
def FilesAt (w : World) (a : Option Addr) (len : Nat) (l : List FileM) : Prop :=
  l.length = len ∧ (0 < len → ∃ b o, a = some ⟨b, o, none⟩ ∧ b < w.heap.size ∧ ∀ (i : Nat) (f : FileM), l[i]? = some f → w.cell? ⟨b, o + i * 2, none⟩ = some (encStr f.1) ∧ w.cell? ⟨b, o + i * 2 + 1, none⟩ = some (encStr f.2))
theorem FilesAt.keep {w w' : World} {a : Option Addr} {len : Nat} {l : List FileM} {S : List Nat} (h : FilesAt w a len l) (hO : Only S w w') (hS : 0 < len → ∀ b o, a = some ⟨b, o, none⟩ → b ∉ S) : FilesAt w' a len l :=
  ⟨h.1, fun hp => by
    obtain ⟨b, o, rfl, hb, hc⟩ := h.2 hp
    have hn := hS hp b o rfl
    exact ⟨b, o, rfl, Nat.lt_of_lt_of_le hb hO.size, fun i f hf => ⟨(hO.cell (p := ⟨b, _, none⟩) hb hn).trans (hc i f hf).1, (hO.cell (p := ⟨b, _, none⟩) hb hn).trans (hc i f hf).2⟩⟩⟩
theorem FilesAt.more {w w' : World} {a : Option Addr} {len : Nat} {l : List FileM} (h : FilesAt w a len l) (hO : Only [] w w') : FilesAt w' a len l := h.keep hO (by simp)

/-- Files that are sound, one by one. -/
def goodM (l : List FileM) : Prop := (∀ f ∈ l, nameM f.1 = true ∧ f.2.length ≤ 2000) ∧ (l.map (·.1)).Nodup
instance (l : List FileM) : Decidable (goodM l) := by unfold goodM; infer_instance
def soundM (l : List FileM) : Bool := decide (l.length ≤ 8) && decide (goodM l)
/-- The set of files, by names. -/
def buildF (l : List FileM) : List FileM := l.foldl (fun F f => putS f F) []
theorem build_snoc (l : List FileM) (f : FileM) : buildF (l ++ [f]) = putS f (buildF l) := by simp [buildF, List.foldl_append]
theorem ins_perm (f : FileM) : ∀ F : List FileM, (insS f F).Perm (f :: F)
  | [] => List.Perm.refl _
  | g :: r => by
    unfold insS
    split
    · exact List.Perm.refl _
    · exact ((ins_perm f r).cons g).trans (List.Perm.swap f g r)
theorem del_none_S {n : List UInt8} {F : List FileM} (h : n ∉ F.map (·.1)) : delS n F = F := by
  unfold delS
  rw [List.filter_eq_self]
  intro g hg
  have : g.1 ≠ n := fun e => h (List.mem_map.2 ⟨g, hg, e⟩)
  simp [this]
theorem put_perm {f : FileM} {F : List FileM} (h : f.1 ∉ F.map (·.1)) : (putS f F).Perm (f :: F) := by
  unfold putS; rw [del_none_S h]; exact ins_perm f F
theorem snoc_cases {P : List FileM → Prop} (h0 : P []) (h1 : ∀ l f, P l → P (l ++ [f])) : ∀ l, P l := by
  intro l
  have : ∀ r : List FileM, P r.reverse := fun r => by
    induction r with
    | nil => exact h0
    | cons f r ih => rw [List.reverse_cons]; exact h1 _ f ih
  have := this l.reverse
  rwa [List.reverse_reverse] at this
theorem build_perm : ∀ l : List FileM, (l.map (·.1)).Nodup → (buildF l).Perm l := by
  refine snoc_cases (fun _ => List.Perm.refl _) (fun l f ih h => ?_)
  rw [build_snoc]
  rw [List.map_append, List.nodup_append] at h
  have ih' := ih h.1
  have hn : f.1 ∉ (buildF l).map (·.1) := fun hm => by
    have := (ih'.map (·.1)).mem_iff.1 hm
    exact h.2.2 _ this f.1 (by simp) rfl
  exact (put_perm hn).trans ((ih'.cons f).trans (List.perm_append_comm (l₁ := [f])))
theorem get_build {l : List FileM} (h : (l.map (·.1)).Nodup) (n : List UInt8) : (getS n (buildF l)).isSome = decide (n ∈ l.map (·.1)) := by
  have hp := build_perm l h
  unfold getS
  rw [List.isSome_find?]
  have : (buildF l).any (fun f => f.1 == n) = decide (n ∈ (buildF l).map (·.1)) := by
    rw [Bool.eq_iff_iff]; simp
  rw [this]
  exact decide_eq_decide.2 (hp.map (·.1)).mem_iff

theorem strclone_any (w : World) (s : List UInt8) (h : s.length ≤ 100000) : Calls Try.prog 42 #[encStr s] w fun e w' => e = .returned (encStr s) ∧ Only [] w w' := by
  go_enter Try.func42, Try.ntmps42
  go_wp2_with fail
  refine (Try.stringslite_Clone ⟨s.toArray⟩ w (by simp [ByteArray.size]; omega)).mono ?_
  rintro e w' ⟨rfl, hb⟩
  have HO := Lib.hid (onlyBelow hb)
  clear hb
  go_wp2
  go_ret
  exact ⟨rfl, HO.out⟩

def SetOfTo (w : World) (l : List FileM) (e : Ending) (w' : World) : Prop :=
  (soundM l = true → ∃ b, e = .returned (.tuple #[.map (some b), .bool true]) ∧ SetAt w' b (buildF l) ∧ w.heap.size ≤ b) ∧ (soundM l = false → e = .returned (.tuple #[.map none, .bool false])) ∧ Only [] w w'

set_option maxHeartbeats 8000000 in
theorem setOf_any (w : World) (a : Option Addr) (len cap : Nat) (l : List FileM) (h : FilesAt w a len l) (hm : ∀ f ∈ l, f.1.length ≤ maxLen ∧ f.2.length ≤ maxLen) (hlen : len ≤ maxLen) :
    Calls Try.prog 23 #[.slice a len cap] w (SetOfTo w l) := by
  unfold maxLen at hlen
  have H := Lib.hid h
  have Hm := Lib.hid hm
  obtain rfl := h.1
  clear h hm
  go_enter Try.func23, Try.ntmps23
  by_cases h8 : (8 : Int) < (l.length : Int)
  · go_wp2
    go_ret2
    refine ⟨fun hs => ?_, fun _ => rfl, Only.refl _ _⟩
    have : ¬ l.length ≤ 8 := by omega
    simp [soundM, this] at hs
  have hmk : ∀ W : World, (Instr.makeMap 56 none).run Try.prog W = .ok (.map (some W.heap.size)) (W.alloc (.map #[] 0)) := fun W => run_makeMap _ W
  have HO1 := Lib.hid ((Only.refl [] w).alloc (.map #[] 0))
  have HS1 := Lib.hid (set_made w)
  have h8' : l.length ≤ 8 := by omega
  go_wp2_with fail
  generalize hw1 : w.alloc (.map #[] 0) = w1 at *
  generalize hb : w.heap.size = b at *
  have Hb := Lib.hid hb
  clear hw1 hb
  go_loopw [16] (fun i wr => ∃ j : Nat, j ≤ l.length ∧ i = .int .i64 j ∧ SetAt wr b (buildF (l.take j)) ∧ goodM (l.take j) ∧ Only [] w wr) (fun i _ => l.length - (intOf i).toNat)
  case atStart => exact ⟨0, by omega, rfl, HS1.out, ⟨by simp, by simp⟩, HO1.out⟩
  case round =>
    obtain ⟨j, hj, rfl, hS, hgd, hO⟩ := hrel
    have HS := Lib.hid hS
    have Hgd := Lib.hid hgd
    have HO := Lib.hid hO
    clear hS hgd hO
    by_cases hlt : j < l.length
    · have hlti : (j : Int) < (l.length : Int) := by omega
      obtain ⟨q, o, rfl, hq, hc⟩ := (H.out.more HO.out).2 (by omega)
      obtain ⟨hc0, hc1⟩ := hc j _ (List.getElem?_eq_getElem hlt)
      have Htk : Hid (l.take (j + 1) = l.take j ++ [l[j]]) := Lib.hid (by rw [List.take_add_one, List.getElem?_eq_getElem hlt]; rfl)
      have hbig := Hm.out l[j] (List.getElem_mem hlt)
      have Hno : Hid (¬ (nameM l[j].1 = true ∧ l[j].2.length ≤ 2000) → soundM l = false) := Lib.hid (fun hn => by
        have : ¬ goodM l := fun hg => hn (hg.1 _ (List.getElem_mem hlt))
        simp [soundM, this])
      have Htw : Hid (l[j].1 ∈ (l.take j).map (·.1) → soundM l = false) := Lib.hid (fun hn => by
        have : ¬ goodM l := fun hg => by
          have h2 := hg.2
          have h3 : l = (l.take j ++ [l[j]]) ++ l.drop (j + 1) := by rw [← Htk.out, List.take_append_drop]
          rw [h3, List.map_append, List.nodup_append, List.map_append, List.nodup_append] at h2
          exact h2.1.2.2 _ hn l[j].1 (by simp) rfl
        simp [soundM, this])
      clear hc
      generalize l[j] = f at *
      obtain ⟨fn, ft⟩ := f
      simp only at hc0 hc1 hbig Hno Htw
      obtain ⟨hb1, hb2⟩ := hbig
      have hmade := IsBlk.made wr (.cells #[.string ⟨fn.toArray⟩, .string ⟨ft.toArray⟩] 33)
      have hOa := (Only.refl [] wr).alloc (.cells #[.string ⟨fn.toArray⟩, .string ⟨ft.toArray⟩] 33)
      go_wp2_with fail
      refine (name_any _ fn hb1).mono ?_
      rintro e w' ⟨rfl, rfl⟩
      generalize wr.alloc (.cells #[.string ⟨fn.toArray⟩, .string ⟨ft.toArray⟩] 33) = W1 at *
      generalize wr.heap.size = p at *
      have g0 : W1.cell? ⟨p, 0, none⟩ = some (.string ⟨fn.toArray⟩) := hmade.cell 0
      have g1 : W1.cell? ⟨p, 1, none⟩ = some (.string ⟨ft.toArray⟩) := hmade.cell 1
      have hpl := hmade.lt
      have HO1' := Lib.hid (HO.out.plus hOa)
      have HSa := Lib.hid (HS.out.more hOa)
      clear hmade hOa hc0 hc1 HS HO hq
      cases hnm : nameM fn with
      | false =>
        go_wp2
        go_ret2
        exact ⟨fun hs => (by rw [Hno.out (by simp [hnm])] at hs; cases hs), fun _ => rfl, HO1'.out⟩
      | true =>
        have Hnm := Lib.hid hnm
        clear hnm
        by_cases h2000 : (2000 : Int) < (ft.length : Int)
        · go_wp2
          go_ret2
          exact ⟨fun hs => (by rw [Hno.out (by simp; omega)] at hs; cases hs), fun _ => rfl, HO1'.out⟩
        · have hget := run_get W1 b _ fn true HSa.out hb1
          have Hin := Lib.hid (get_build Hgd.out.2 fn)
          generalize getS fn (buildF (l.take j)) = gg at *
          rw [if_pos rfl] at hget
          generalize gg.getD ([], []) = gv at hget
          obtain ⟨vn, vt⟩ := gv
          unfold fileV encStr at hget
          simp only at hget
          have hmade := IsBlk.made W1 (.cells #[.string ⟨vn.toArray⟩, .string ⟨vt.toArray⟩] 33)
          have hOa := (Only.refl [] W1).alloc (.cells #[.string ⟨vn.toArray⟩, .string ⟨vt.toArray⟩] 33)
          cases hgg : gg.isSome with
          | true =>
            rw [hgg] at hget
            go_wp2
            go_ret2
            exact ⟨fun hs => (by rw [Htw.out (by have := Hin.out; rw [hgg] at this; simpa using this.symm)] at hs; cases hs), fun _ => rfl, HO1'.out.plus hOa⟩
          | false =>
            rw [hgg] at hget
            have Hnew : Hid (fn ∉ (l.take j).map (·.1)) := Lib.hid (by have := Hin.out; rw [hgg] at this; simpa using this.symm)
            have h2 : ft.length ≤ 2000 := by omega
            have hn12 : fn.length ≤ 12 := by
              have := Hnm.out
              simp only [nameM, Bool.and_eq_true, decide_eq_true_eq] at this
              omega
            have hp0 := (hOa.cell (p := ⟨p, 0, none⟩) hpl (by simp)).trans g0
            have hp1 := (hOa.cell (p := ⟨p, 1, none⟩) hpl (by simp)).trans g1
            have HSb := Lib.hid (HSa.out.more hOa)
            have HOb := Lib.hid (HO1'.out.plus hOa)
            have hplb : p < (W1.alloc (.cells #[.string ⟨vn.toArray⟩, .string ⟨vt.toArray⟩] 33)).heap.size := Nat.lt_of_lt_of_le hpl hOa.size
            clear hOa hmade HSa HO1' hgg Hin
            go_wp2_with fail
            clear g0 g1
            generalize W1.alloc (.cells #[.string ⟨vn.toArray⟩, .string ⟨vt.toArray⟩] 33) = W2 at *
            clear hget
            refine (strclone_any _ fn (by omega)).mono ?_
            rintro e W3 ⟨rfl, hO3⟩
            have hp0' := (hO3.cell (p := ⟨p, 0, none⟩) hplb (by simp)).trans hp0
            have hp1' := (hO3.cell (p := ⟨p, 1, none⟩) hplb (by simp)).trans hp1
            have HS3 := Lib.hid (HSb.out.more hO3)
            have HO3 := Lib.hid (HOb.out.plus hO3)
            clear hp0 hp1 hO3 HSb HOb
            go_wp2_with fail
            refine (strclone_any _ ft (by omega)).mono ?_
            rintro e W4 ⟨rfl, hO4⟩
            have HS4 := Lib.hid (HS3.out.more hO4)
            have HO4 := Lib.hid (HO3.out.plus hO4)
            clear hp0' hp1' hO4 HS3 HO3
            have hsm : (buildF (l.take j)).length < maxLen := by
              rw [(build_perm _ Hgd.out.2).length_eq, List.length_take]; unfold maxLen; omega
            go_wp2_with (refine wpList_mapUpdate_own _ rfl _ _ _ _ rfl 9 33 (string_keyed Try.underlying9) Try.underlying56 RF b _ _ rfl HS4.out hsm (encStr fn) (fileV (fn, ft)) (.string fn) rfl rfl (key_str hb1) (fileD (fn, ft)) [] (RF_file _) ?_; intro W5 h5 hg5)
            go_roundw
            case rel =>
              refine ⟨j + 1, by omega, by go_num, ?_, ?_, only_row HO4.out hg5 (Nat.le_refl b) (Nat.le_of_eq Hb.out)⟩
              · rw [Htk.out, build_snoc]
                have := put_setD (fn, ft) (buildF (l.take j))
                simp only at this
                rw [this] at h5
                exact SetAt.tight h5
              · rw [Htk.out]
                refine ⟨fun x hx => ?_, ?_⟩
                · rcases List.mem_append.1 hx with h1 | h1
                  · exact Hgd.out.1 x h1
                  · simp at h1; subst h1; exact ⟨Hnm.out, h2⟩
                · rw [List.map_append, List.nodup_append]
                  refine ⟨Hgd.out.2, by simp, fun x hx y hy e => ?_⟩
                  simp at hy
                  subst hy e
                  exact Hnew.out hx
            case measure => simp [intOf]; omega
    · have hge : ¬ (j : Int) < (l.length : Int) := by omega
      go_wp2
      go_ret2
      have hjl : j = l.length := by omega
      have h1 := HS.out
      have h2 := Hgd.out
      rw [hjl, List.take_length] at h1 h2
      refine ⟨fun _ => ⟨b, rfl, h1, by have := Hb.out; omega⟩, fun hs => ?_, HO.out⟩
      simp [soundM, h8', h2] at hs

end Go.Proofs.Ytnieaeoijdmheaa
