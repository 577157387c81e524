/-
  tell and tellAll of the package graph.
-/
import Derived.Test.YtgkddbpfjbgelaaGrK
namespace Go.Proofs.Ytgkddbpfjbgelaa
set_option maxRecDepth 100000
set_option linter.unusedVariables false
open Go.RowKit Go.Sort Go.Maps

theorem clone8_any (w : World) (s : Nam) (hs : s.length ≤ 100000) : Calls Try.prog 65 #[encStr s] w fun e w' => e = .returned (encStr s) ∧ Only [] w w' := by
  unfold encStr
  have hlim : (⟨s.toArray⟩ : ByteArray).size ≤ 281474976710656 := by simp [ByteArray.size]; omega
  go_enter Try.func65, Try.ntmps65
  go_wp2_with fail
  refine (Try.stringslite_Clone _ _ hlim).mono ?_
  rintro e w1 ⟨rfl, hB⟩
  go_wp2
  go_ret
  exact ⟨rfl, belowOnly hB⟩

theorem infoT8 : (Try.prog.info? 9).map (fun i => (i.zero, i.size, i.bytes)) = some (some (.string ⟨#[]⟩), 1, 16) := by kernel_rfl
theorem infoN8 : (Try.prog.info? 24).map (fun i => (i.zero, i.size, i.bytes)) = some (some (.slice none 0 0), 1, 24) := by kernel_rfl
theorem make_strs (n : Nat) (hn : n ≤ 100000) (W : World) : (Instr.makeSlice 24 (.int .i64 0) (.int .i64 n)).run Try.prog W = .ok (.slice (some ⟨W.heap.size, 0, none⟩) 0 n) (W.alloc (.cells (Array.replicate n (.string ⟨#[]⟩)) 9)) := by
  obtain ⟨i0, hi, hz0, hz1, hz2⟩ := info_parts infoT8
  have hm := run_make (P := Try.prog) W 24 9 i0 (.string ⟨#[]⟩) Try.underlying24 hi hz0 .i64 .i64 0 n (by omega) (by omega) (by rw [hz2]; omega) (by omega)
  rw [hz1, Nat.mul_one] at hm
  have e : madeCells (Value.string ⟨#[]⟩).cells n = Array.replicate n (.string ⟨#[]⟩) := by
    apply Array.ext'
    rw [show (madeCells (Value.string ⟨#[]⟩).cells n).toList = List.replicate n (.string ⟨#[]⟩) from toList_madeCells_one _ _]
    simp
  simpa [e] using hm
theorem make_strss (n : Nat) (hn : n ≤ 100000) (W : World) : (Instr.makeSlice 30 (.int .i64 0) (.int .i64 n)).run Try.prog W = .ok (.slice (some ⟨W.heap.size, 0, none⟩) 0 n) (W.alloc (.cells (Array.replicate n (.slice none 0 0)) 24)) := by
  obtain ⟨i0, hi, hz0, hz1, hz2⟩ := info_parts infoN8
  have hm := run_make (P := Try.prog) W 30 24 i0 (.slice none 0 0) Try.underlying30 hi hz0 .i64 .i64 0 n (by omega) (by omega) (by rw [hz2]; omega) (by omega)
  rw [hz1, Nat.mul_one] at hm
  have e : madeCells (Value.slice none 0 0).cells n = Array.replicate n (.slice none 0 0) := by
    apply Array.ext'
    rw [show (madeCells (Value.slice none 0 0).cells n).toList = List.replicate n (.slice none 0 0) from toList_madeCells_one _ _]
    simp
  simpa [e] using hm

/-- Numbers in a slice, to be read. -/
def NumsAt (w : World) (v : Value) (l : List Nat) : Prop :=
  ∃ a c, v = .slice a l.length c ∧ ∀ (j k : Nat), l[j]? = some k → ∃ g, a = some ⟨g, 0, none⟩ ∧ g < w.heap.size ∧ w.cell? ⟨g, j, none⟩ = some (iv k)
theorem NumsAt.more {w w' : World} {v : Value} {l : List Nat} (h : NumsAt w v l) (hO : Only [] w w') : NumsAt w' v l := by
  obtain ⟨a, c, e, h⟩ := h
  refine ⟨a, c, e, fun j k hj => ?_⟩
  obtain ⟨g, e, hg, hc⟩ := h j k hj
  exact ⟨g, e, Nat.lt_of_lt_of_le hg hO.size, (hO.cell (p := ⟨g, j, none⟩) hg (by simp)).trans hc⟩
theorem RowI.nums {w : World} {base : Nat} {v : Value} {l : List Nat} (h : RowI w base v l) : NumsAt w v l := by
  obtain ⟨a, c, rfl, -⟩ := h.slice
  refine ⟨a, c, rfl, fun j k hj => ?_⟩
  obtain ⟨g, c', e, -, hg, hc⟩ := h.get hj
  injection e with e
  exact ⟨g, e, hg, hc⟩
def tellM (N : List Nam) (l : List Nat) : List Nam := l.map (fun k => N.getD k [])

def TellTo (w : World) (N : List Nam) (l : List Nat) (r : Ending) (w' : World) : Prop := ∃ v, r = .returned v ∧ OwnN w' w.heap.size v (tellM N l) ∧ Only [] w w'

set_option maxHeartbeats 8000000 in
theorem tell_any (w : World) (vN vm vn vb v : Value) (N : List Nam) (l : List Nat) (hN : NamsAt w vN N) (hl : NumsAt w v l) (hs : ∀ s ∈ N, s.length ≤ 100000) (hn : l.length ≤ 100000) (hlt : ∀ k ∈ l, k < N.length) (hv : vm.oneCell' = true ∧ vn.oneCell' = true ∧ vb.oneCell' = true) :
    Calls Try.prog 46 #[.agg #[vN, vm, vn, vb], v] w (TellTo w N l) := by
  obtain ⟨v1, v2, v3⟩ := hv
  obtain ⟨aN, cN, rfl, hN'⟩ := hN
  obtain ⟨a, c, rfl, hl'⟩ := hl
  have HN := Lib.hid hN'
  have HL := Lib.hid hl'
  clear hN' hl'
  have hmk := make_strs l.length hn
  have HO1 := Lib.hid ((Only.refl [] w).alloc (.cells #[.slice aN N.length cN, vm, vn, vb] 67))
  have HB1 := Lib.hid (IsBlk.made w (.cells #[.slice aN N.length cN, vm, vn, vb] 67))
  have hln : (0 : Int) ≤ (l.length : Int) := by omega
  go_enter Try.func46, Try.ntmps46
  go_upto_region 2 with fail
  generalize hW1 : w.alloc (.cells #[.slice aN N.length cN, vm, vn, vb] 67) = w1 at *
  have hs1 : w1.heap.size = w.heap.size + 1 := by rw [← hW1]; simp
  clear hW1
  have hO2 : Only [] w1 (w1.alloc (.cells (Array.replicate l.length (.string ⟨#[]⟩)) 9)) := (Only.refl _ _).alloc _
  have hr2 : OwnN (w1.alloc (.cells (Array.replicate l.length (.string ⟨#[]⟩)) 9)) w1.heap.size (.slice (some ⟨w1.heap.size, 0, none⟩) 0 l.length) [] := World.ownsRow_made w1 _ l.length (Nat.le_refl _) (by unfold maxLen; omega) (by simp)
  generalize hW2 : w1.alloc (.cells (Array.replicate l.length (.string ⟨#[]⟩)) 9) = w2 at *
  clear hW2
  have HO12 := Lib.hid hO2
  have Hr2 := Lib.hid hr2
  have hs2 := hO2.size
  clear hO2 hr2 hmk
  go_wp2_with fail
  go_loopw [5, 13] (fun sv i wr => ∃ k : Nat, k ≤ l.length ∧ i = .int .i64 k ∧ OwnN wr w1.heap.size sv (tellM N (l.take k)) ∧ Only [] w1 wr) (fun _ i _ => l.length - (intOf i).toNat)
  case atStart => exact ⟨0, Nat.zero_le _, rfl, by rw [← hs1]; exact Hr2.out, HO12.out⟩
  case round =>
    obtain ⟨k, hk, rfl, how, hOr⟩ := hrel
    have How := Lib.hid how
    have HOr := Lib.hid hOr
    have cN0 := (HB1.out.only hOr (by simp)).cell 0
    have lb := (HB1.out.only hOr (by simp)).lt
    clear how hOr
    by_cases hlt' : k < l.length
    · have hki : (k : Int) < (l.length : Int) := by omega
      have hk0 : (0 : Int) ≤ (k : Int) := by omega
      obtain ⟨y, hy⟩ : ∃ y, l[k]? = some y := ⟨l[k], by simp [hlt']⟩
      have hyN := hlt y (List.mem_of_getElem? hy)
      obtain ⟨s, hsy⟩ : ∃ s, N[y]? = some s := ⟨N[y], by simp [hyN]⟩
      obtain ⟨g, rfl, hg, hcg⟩ := HL.out k y hy
      obtain ⟨gN, rfl, hgN, hcN⟩ := HN.out (by omega)
      have hcs := hcN y s hsy
      have hOw := HO1.out.plus HOr.out
      have c1 := (hOw.cell (p := ⟨g, k, none⟩) hg (by simp)).trans hcg
      have c2 := (hOw.cell (p := ⟨gN, y, none⟩) hgN (by simp)).trans hcs
      have hsl := hs s (List.mem_of_getElem? hsy)
      have hyi : (y : Int) < (N.length : Int) := by omega
      have hy0 : (0 : Int) ≤ (y : Int) := by omega
      have Htk : Hid (tellM N (l.take (k + 1)) = tellM N (l.take k) ++ [s]) := Lib.hid (by
        unfold tellM
        rw [List.take_add_one, hy, List.map_append]
        simp [List.getD_eq_getElem?_getD, hsy])
      have htl : (tellM N (l.take k)).length ≤ 1000000 := by simp [tellM]; omega
      clear hcg hcN hcs hy hsy
      unfold iv at c1
      go_wp2_with fail
      refine (clone8_any wr s hsl).mono ?_
      rintro e w3 ⟨rfl, hO3⟩
      have HO3 := Lib.hid hO3
      clear hO3
      have hOl : Only [] w3 (w3.alloc (.cells #[encStr s] 9)) := (Only.refl _ _).alloc _
      have hs3 := HOr.out.size
      have hs3' := HO3.out.size
      unfold encStr
      go_wp2_with (at_builtin; refine wpList_append_18 rfl _ _ 24 9 rfl Try.underlying24 (.string ⟨#[]⟩) 16 infoT8 rfl (by decide) w1.heap.size u5 (tellM N (l.take k)).length ((tellM N (l.take k)).map encStr) rfl (owns_off (owns_off How.out HO3.out (by simp)) hOl (by simp)) w3.heap.size 1 (encStr s) rfl ((IsBlk.made w3 _).cell 0) rfl htl (by simp; omega) ?_; intro v' w4 k1 k2 k3)
      go_roundw
      case rel =>
        refine ⟨k + 1, by omega, by go_num, ?_, ((HOr.out.plus HO3.out).plus hOl).then k2 [] (by simp) (fun i hi => .inr (World.ownsRow.lt How.out i (mem_ownL.1 hi)).1)⟩
        rw [Htk.out]; unfold OwnN; rw [List.length_append, List.map_append]; exact k1
      case measure => simp [intOf]; omega
    · obtain rfl : k = l.length := by omega
      have hki : ¬ (l.length : Int) < (l.length : Int) := by omega
      go_wp2
      go_ret
      have how := How.out
      rw [List.take_length] at how
      exact ⟨_, rfl, owns_base how (by omega), HO1.out.plus HOr.out⟩

end Go.Proofs.Ytgkddbpfjbgelaa
