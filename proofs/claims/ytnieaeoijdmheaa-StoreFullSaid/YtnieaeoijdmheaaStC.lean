/-
  The names of sets of files, in rising order (names): maps.Keys, slices.AppendSeq, Sort, Compact by the library's contracts.
-/
import Derived.Test.YtnieaeoijdmheaaStB
import Derived.Test.YtnieaeoijdmheaaShelf
import Derived.Sort.OwnSorted
namespace Go.Proofs.Ytnieaeoijdmheaa
set_option maxRecDepth 100000
set_option linter.unusedVariables false
open Go.RowKit Go.Sort Go.Maps

theorem onlyBelow {w w' : World} (hb : Below w.heap.size w w') : Only [] w w' :=
  ⟨hb.os, hb.tape, hb.output, hb.size, fun k hk _ => hb.block k hk⟩

/-- Rows of texts of one's own. -/
def OwnS (w : World) (base : Nat) (v : Value) (ss : List (List UInt8)) : Prop := w.ownsRow base 9 1 v ss.length (ss.map encStr)

theorem keys_call (w : World) (b : Nat) : Calls Try.prog 68 #[.map (some b)] w fun e w' => e = .returned (.func (.func 80) #[] #[.pointer (some ⟨w.heap.size, 0, none⟩)]) ∧ w' = w.alloc (.cells #[.map (some b)] 56) :=
  (callsIn_wide (n := 5)).1 (AnyZ.keys_in Try.keysA Fence.wide 5 trivial rfl (some b) w)

/-- AppendSeq of no row and of a set's names. -/
theorem appseq_nil (w : World) (b q : Nat) (F : List FileM) (h : SetAt w b F) (hF : F.length ≤ 100000) (hq : q < w.heap.size) (hc : w.cell? ⟨q, 0, none⟩ = some (.map (some b))) :
    Calls Try.prog 67 #[.slice none 0 0, .func (.func 80) #[] #[.pointer (some ⟨q, 0, none⟩)]] w
      fun e w' => ∃ v ss, e = .returned v ∧ ss.Perm (F.map (·.1)) ∧ OwnS w' w.heap.size v ss ∧ (v = .slice none 0 0 ↔ ss = []) ∧ Only [] w w' := by
  have hsz : Maps.size (setD F) = F.length := by simp [setD, Maps.size]
  have hseq : SeqGives Fence.wide 5 Try.prog 80 #[.pointer (some ⟨q, 0, none⟩)] encStr (fun ss => ss.Perm (strKeys (setD F))) (Maps.size (setD F)) w :=
    AnyZ.keys_gives (ρ := Try.keysA_ren) { Try.keysA with } Fence.wide _ trivial rfl (by omega) q b F.length (setD F) w hq hc h
  have hk : strKeys (setD F) = F.map (·.1) := by simp [strKeys, setD, entD, strOf]
  have hmax : F.length ≤ maxLen := by unfold maxLen; omega
  refine ((callsIn_wide (n := 6)).1 (AnyZ.appendSeq_in Try.appA Fence.wide 6 trivial rfl (by omega) 80 #[.pointer (some ⟨q, 0, none⟩)] trivial (enters_of Try.func80 (by kernel_rfl) rfl) _ _ (by rw [hsz]; exact hmax) (by rw [hsz]; omega) w hseq)).mono ?_
  rintro e w' ⟨v, ss, rfl, hS, hrow, hnil, hb⟩
  exact ⟨v, ss, rfl, by rw [← hk]; exact hS, hrow, hnil, onlyBelow hb⟩

theorem before_lt : ∀ {a b : List UInt8}, bytesBefore a b = true → a < b
  | [], [], h => by cases h
  | [], _ :: _, _ => by simp
  | _ :: _, [], h => by cases h
  | a :: r, b :: s, h => by
    simp only [bytesBefore, Bool.or_eq_true, Bool.and_eq_true, decide_eq_true_eq, beq_iff_eq] at h
    rw [List.cons_lt_cons_iff]
    rcases h with h | ⟨h1, h2⟩
    · exact .inl h
    · exact .inr ⟨h1, before_lt h2⟩
theorem Rise.names {F : List FileM} (h : Rise F) : (F.map (·.1)).Pairwise (· < ·) := by
  rw [List.pairwise_map]
  exact h.imp before_lt
theorem sorted_names {F : List FileM} (h : Rise F) {ss : List (List UInt8)} (hp : ss.Perm (F.map (·.1))) : (ss.mergeSort fun x y => decide (x ≤ y)) = F.map (·.1) := by
  have e := mergeSort_of_perm hp
  have e2 : (F.map (·.1)).mergeSort (fun x y => decide (x ≤ y)) = F.map (·.1) := by
    apply List.mergeSort_of_pairwise
    exact h.names.imp (fun hab => by simp only [decide_eq_true_eq]; exact List.le_of_lt hab)
  exact e.trans e2
theorem compact_nodup {zs : List (List UInt8)} (h : zs.Nodup) : Lib.compact zs = zs := by
  apply Lib.compact_all
  intro j hj'
  unfold Lib.keeps
  by_cases h0 : j = 0
  · simp [h0]
  · have hne : zs[j] ≠ zs[j - 1] := fun e => by
      have := (List.getElem_inj (h₀ := hj') (h₁ := by omega) h).1 e
      omega
    simp [h0, hj', show j - 1 < zs.length by omega, hne]

/-- Sets in a row. -/
def SetsAt (w : World) (g : Nat) (Ls : List (Nat × List FileM)) : Prop := g < w.heap.size ∧ ∀ (i : Nat) (x : Nat × List FileM), Ls[i]? = some x → w.cell? ⟨g, i, none⟩ = some (.map (some x.1)) ∧ SetAt w x.1 x.2
theorem SetsAt.more {w w' : World} {g : Nat} {Ls : List (Nat × List FileM)} (h : SetsAt w g Ls) (hO : Only [] w w') : SetsAt w' g Ls :=
  ⟨Nat.lt_of_lt_of_le h.1 hO.size, fun i x hx => ⟨(hO.cell (p := ⟨g, i, none⟩) h.1 (by simp)).trans (h.2 i x hx).1, (h.2 i x hx).2.more hO⟩⟩

/-- Sort and Compact of a row of one's own of a set's names. -/
theorem OwnS.only {w w' : World} {base : Nat} {v : Value} {ss : List (List UInt8)} (h : OwnS w base v ss) (hO : Only [] w w') : OwnS w' base v ss := by
  refine ⟨h.1, ?_⟩
  rcases h.2 with hn | ⟨g, cap, cur, rfl, hb, hg, rest⟩
  · exact .inl hn
  · exact .inr ⟨g, cap, cur, rfl, hb, (hO.block g (IsBlk.lt hg) (by simp)).trans hg, rest⟩

def OwnTo (w : World) (base : Nat) (v r : Value) (ss : List (List UInt8)) (e : Ending) (w' : World) : Prop :=
  e = .returned r ∧ OwnS w' base v ss ∧ ∀ w0, Only [] w0 w → w0.heap.size ≤ base → Only [] w0 w'
theorem only_row {w0 w w' : World} {g base : Nat} (hO : Only [] w0 w) (hg : w.grownBy w' (some g)) (hb : base ≤ g) (h0 : w0.heap.size ≤ base) : Only [] w0 w' :=
  ⟨hg.os.trans hO.os, hg.tape.trans hO.tape, hg.output.trans hO.output, Nat.le_trans hO.size hg.size, fun k hk hm => (hg.block k (Nat.lt_of_lt_of_le hk hO.size) (fun e => by injection e with e; omega)).trans (hO.block k hk hm)⟩
theorem sort_own (w : World) (base : Nat) (v : Value) (ss : List (List UInt8)) (h : OwnS w base v ss) (hl : ss.length ≤ 100000) :
    Calls Try.prog 69 #[v] w (OwnTo w base v (.tuple #[]) (ss.mergeSort fun x y => decide (x ≤ y))) := by
  have h' := h
  rcases h.2 with ⟨rfl, hz⟩ | ⟨g, cap, cur, rfl, hbase, hb, r1, r2, r3, r4⟩
  · have hss : ss = [] := List.eq_nil_of_length_eq_zero hz
    subst hss
    refine (Try.slices_Sort_string_none none 0 w).mono ?_
    rintro e w' ⟨rfl, rfl⟩
    exact ⟨rfl, by simpa using h', fun w0 hO _ => hO⟩
  · refine (Try.slices_Sort_string g 0 cap ss w (holds_of_block hb (by simpa using r4)) (IsBlk.lt hb) (by omega)).mono ?_
    rintro e w' ⟨rfl, n, os, rfl⟩
    refine ⟨rfl, ?_, fun w0 hO h0 => only_row hO (grownBy_sorted _) hbase h0⟩
    have := ownsRow_sorted (n := n) (os := os) (ts := ss.mergeSort fun x y => decide (x ≤ y)) (by simp) hbase hb r1 r2 r3
    unfold OwnS
    rw [List.length_mergeSort]
    exact this
theorem compact_own (w : World) (base : Nat) (v : Value) (ss : List (List UInt8)) (h : OwnS w base v ss) (hn : ss.Nodup) (hl : ss.length ≤ 100000) :
    Calls Try.prog 70 #[v] w (OwnTo w base v v ss) := by
  have h' := h
  rcases h.2 with ⟨rfl, hz⟩ | ⟨g, cap, cur, rfl, hbase, hb, r1, r2, r3, r4⟩
  · refine (Try.slices_Compact_string_empty none 0 w).mono ?_
    rintro e w' ⟨rfl, rfl⟩
    exact ⟨rfl, h', fun w0 hO _ => hO⟩
  · have hm : ss.length ≤ 9223372036854775807 := by omega
    refine (Try.slices_Compact_string g 0 cap ss w (holds_of_block hb (by simpa using r4)) hm r1).mono ?_
    rw [compact_nodup hn]
    rintro e w' ⟨rfl, n, rfl⟩
    have e0 : (ss ++ List.replicate (ss.length - ss.length) []).toArray = ss.toArray := by simp
    rw [e0, ← grow_empty (putRow encStr (Sort.ahead w n) g 0 ss.toArray)]
    exact ⟨rfl, ownsRow_sorted rfl hbase hb r1 r2 r3, fun w0 hO h0 => only_row hO (grownBy_sorted _) hbase h0⟩

set_option maxHeartbeats 4000000 in
theorem names_any (w : World) (g cap k b : Nat) (F : List FileM) (Ls : List (Nat × List FileM)) (h : SetsAt w g Ls) (hk : Ls.length = k + 1) (hk9 : k ≤ 9) (hpre : ∀ (i : Nat) (x : Nat × List FileM), i < k → Ls[i]? = some x → x.2 = []) (hlast : Ls[k]? = some (b, F)) (hF : F.length ≤ 100000) :
    Calls Try.prog 46 #[.slice (some ⟨g, 0, none⟩) (k + 1) cap] w fun e w' => ∃ v, e = .returned v ∧ OwnS w' w.heap.size v (F.map (·.1)) ∧ Only [] w w' := by
  have hR : Hid (Rise F) := Lib.hid (h.2 k _ hlast).2.rise
  have H := Lib.hid h
  have Hp := Lib.hid hpre
  have Hl := Lib.hid hlast
  clear h hpre hlast
  go_enter Try.func46, Try.ntmps46
  go_wp2_with fail
  go_loopw [8, 3] (fun i s3 wr => ∃ j : Nat, j ≤ k + 1 ∧ i = .int .i64 j ∧ (j ≤ k → s3 = .slice none 0 0) ∧ (j = k + 1 → ∃ ss, ss.Perm (F.map (·.1)) ∧ OwnS wr w.heap.size s3 ss) ∧ Only [] w wr) (fun i _ _ => k + 1 - (intOf i).toNat)
  case atStart => exact ⟨0, by omega, rfl, fun _ => rfl, fun h => by omega, Only.refl _ _⟩
  case round =>
    obtain ⟨j, hj, rfl, hnil, hown, hO⟩ := hrel
    have HO := Lib.hid hO
    clear hO
    by_cases hlt : j < k + 1
    · have hlti : (j : Int) < ((k : Int) + 1) := by omega
      obtain rfl := hnil (by omega)
      clear hnil hown
      have hS := H.out.more HO.out
      obtain ⟨⟨bj, Fj⟩, hx⟩ : ∃ x, Ls[j]? = some x := ⟨_, List.getElem?_eq_getElem (by omega)⟩
      obtain ⟨hc, hs⟩ := hS.2 j _ hx
      simp only at hc hs
      have Hs := Lib.hid hs
      have Hx := Lib.hid hx
      have hFj : Fj.length ≤ 100000 := by
        by_cases e : j = k
        · have h2 := Hl.out; rw [← e, hx] at h2; injection h2 with h2; injection h2 with h2 h3; rw [h3]; exact hF
        · have := Hp.out j _ (by omega) hx; simp only at this; rw [this]; simp
      clear hS hs hx
      go_wp2_with fail
      refine (keys_call _ bj).mono ?_
      rintro e w1 ⟨rfl, hw1⟩
      have hO1 : Only [] wr w1 := by rw [hw1]; exact (Only.refl _ _).alloc _
      have hc1 : w1.cell? ⟨wr.heap.size, 0, none⟩ = some (.map (some bj)) := by rw [hw1]; exact IsBlk.cell (IsBlk.made wr _) 0
      have hq1 : wr.heap.size < w1.heap.size := by rw [hw1]; simp
      have Hc1 := Lib.hid hc1
      have HO1 := Lib.hid hO1
      clear hw1 hc1 hO1
      go_wp2_with fail
      refine (appseq_nil _ bj wr.heap.size Fj (Hs.out.more HO1.out) hFj hq1 Hc1.out).mono ?_
      rintro e w2 ⟨v, ss, rfl, hp, how, hn, hO2⟩
      have HO2 := Lib.hid (HO.out.plus (HO1.out.plus hO2))
      have How := Lib.hid how
      have hsz : w.heap.size ≤ w1.heap.size := Nat.le_trans HO.out.size HO1.out.size
      clear how hO2
      go_wp2
      go_roundw
      case rel =>
        refine ⟨j + 1, by omega, by go_num, fun h => ?_, fun h => ?_, HO2.out⟩
        · have := Hp.out j _ (by omega) Hx.out
          simp only at this
          rw [this] at hp
          exact hn.2 (by simpa using hp)
        · have hjk : j = k := by omega
          have h2 := Hl.out
          rw [← hjk, Hx.out] at h2
          injection h2 with h2; injection h2 with h2 h3
          rw [← h3]
          exact ⟨ss, hp, ownsRow_base_a How.out hsz⟩
      case measure => simp [intOf]; omega
    · have hge : ¬ (j : Int) < ((k : Int) + 1) := by omega
      obtain ⟨ss, hp, how⟩ := hown (by omega)
      have How := Lib.hid how
      clear hnil hown how
      have hlen : ss.length ≤ 100000 := by rw [hp.length_eq]; simpa using hF
      have Hsort := Lib.hid (sorted_names hR.out hp)
      go_wp2_with fail
      refine (sort_own _ w.heap.size _ ss How.out hlen).mono ?_
      rintro e w1 ⟨rfl, ho1, hO1⟩
      rw [Hsort.out] at ho1
      have HO1 := Lib.hid (hO1 w HO.out (Nat.le_refl _))
      have Ho1 := Lib.hid ho1
      have hnd : (F.map (·.1)).Nodup := hR.out.names.imp (fun h e => by subst e; exact List.lt_irrefl _ h)
      have Hnd := Lib.hid hnd
      clear ho1 hO1 hnd hp
      go_wp2_with fail
      refine (compact_own _ w.heap.size _ _ Ho1.out Hnd.out (by simpa using hF)).mono ?_
      rintro e w2 ⟨rfl, ho2, hO2⟩
      have HO2 := Lib.hid (hO2 w HO1.out (Nat.le_refl _))
      have Ho2 := Lib.hid ho2
      clear ho2 hO2
      go_wp2
      go_ret
      exact ⟨_, rfl, Ho2.out, HO2.out⟩

end Go.Proofs.Ytnieaeoijdmheaa
