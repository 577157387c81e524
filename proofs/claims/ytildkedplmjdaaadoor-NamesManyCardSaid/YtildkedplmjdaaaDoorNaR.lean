/-
  slices.SortFunc of files, by their names: the library's contract at a struct of two cells, paid by the program's comparison; byNames.
-/
import Derived.Test.YtildkedplmjdaaaDoorNaQ
import Derived.Test.YtildkedplmjdaaaDoorShelf
import Derived.Shelf.SlSortCmp.SmallK
namespace Go.Proofs.YtildkedplmjdaaaDoor
set_option maxRecDepth 100000
set_option linter.unusedVariables false
open Go.RowKit Go.Sort Go.Shelf Go.Lib

theorem compare_lt : ∀ a b : List UInt8, Lib.compareBytes a b < 0 ↔ a < b
  | [], [] => by simp [Lib.compareBytes]
  | [], b :: bs => by simp [Lib.compareBytes]
  | a :: l, [] => by simp [Lib.compareBytes]
  | a :: l, b :: bs => by
    have ih := compare_lt l bs
    rw [List.cons_lt_cons_iff]
    unfold Lib.compareBytes
    by_cases h1 : a < b
    · simp [h1]
    · by_cases h2 : b < a
      · have h3 : ¬ a = b := fun e => by subst e; exact h1 h2
        simp [h1, h2, h3]
      · have h3 : a = b := UInt8.le_antisymm (UInt8.not_lt.1 h2) (UInt8.not_lt.1 h1)
        subst h3
        simp [ih]

def cfF (x y : FilM) : Int := Lib.compareBytes x.1 y.1
theorem lt_cfF (x y : FilM) : ltOf cfF x y = decide (x.1 < y.1) := by
  unfold ltOf cfF
  by_cases h : x.1 < y.1
  · simp [h, (compare_lt x.1 y.1).2 h]
  · have := mt (compare_lt x.1 y.1).1 h
    simp [h]
    omega
theorem swo_cfF : SWO (ltOf cfF) := by
  refine ⟨fun x => ?_, fun x y z h1 h2 => ?_, fun x y z h1 h2 => ?_⟩
  · rw [lt_cfF]; simp [List.lt_irrefl]
  · rw [lt_cfF] at *; simp at *; exact List.lt_trans h1 h2
  · rw [lt_cfF] at *; simp at *; exact List.le_trans h2 h1

def encF2 (f : FilM) : List Value := [encStr f.1, encStr f.2]
theorem flat_encF (zs : List FilM) : (flatK encF2 2 zs.toArray).toList = filCells zs := by
  apply List.ext_getElem?
  intro t
  by_cases ht : t < zs.length * 2
  · have h1 := get_flatK encF2 2 zs.toArray t (by simpa using ht)
    have hs : (flatK encF2 2 zs.toArray).size = zs.length * 2 := by simp
    rw [Array.getElem?_toList, Array.getElem?_eq_getElem (by omega), ← getElem!_pos _ t (by omega), h1]
    have hj : t / 2 < zs.length := by omega
    have hf : zs[t / 2]? = some zs[t / 2] := List.getElem?_eq_getElem hj
    have hd : (zs.toArray)[t / 2]! = zs[t / 2] := by rw [getElem!_pos _ _ (by simpa using hj)]; simp
    obtain ⟨a1, a2⟩ := filCells_at zs (t / 2) _ hf
    rw [hd]
    clear hd hf h1
    generalize zs[t / 2] = f at *
    rcases Nat.mod_two_eq_zero_or_one t with h | h
    · have et : t / 2 * 2 = t := by omega
      rw [et] at a1
      rw [h, a1]; rfl
    · have et : t / 2 * 2 + 1 = t := by omega
      rw [et] at a2
      rw [h, a2]; rfl
  · rw [List.getElem?_eq_none (by simp; omega), List.getElem?_eq_none (by rw [length_filCells]; omega)]

theorem take_putCellsV (cur : Array Value) (F : Array Value) (h : F.size ≤ cur.size) : (putCells id 0 F cur).toList.take F.size = F.toList := by
  apply List.ext_getElem?
  intro j
  by_cases hj : j < F.size
  · rw [List.getElem?_take_of_lt hj, Array.getElem?_toList]
    simp [putCells, hj, show j < cur.size by omega]
  · rw [List.getElem?_take_eq_none (by omega), List.getElem?_eq_none (by simp; omega)]
theorem grownBy_sortedV {w : World} {g n : Nat} {os : Array Obj} (F : Array Value) : w.grownBy (grow (putRow id (Sort.ahead w n) g 0 F) os) (some g) := by
  refine ⟨rfl, rfl, rfl, by simp, fun k hk hne => ?_⟩
  rw [heap_grow_old _ _ (by simpa using hk)]
  have : g ≠ k := fun e => hne (by rw [e])
  simp [putRow, mapBlock, Sort.ahead, Array.getElem?_modify, this]
theorem heap_sortedV {w : World} {g n : Nat} {os : Array Obj} {cur : Array Value} {e : TypeId} {fr : Nat × Nat} (F : Array Value) (hb : w.heap[g]? = some (.cells cur e fr)) :
    (grow (putRow id (Sort.ahead w n) g 0 F) os).heap[g]? = some (.cells (putCells id 0 F cur) e fr) := by
  have hg : g < w.heap.size := (Array.getElem?_eq_some_iff.1 hb).1
  rw [heap_grow_old _ _ (by simpa using hg)]
  simp [putRow, mapBlock, Sort.ahead, Array.getElem?_modify, hb, onCells]

set_option maxHeartbeats 1000000 in
theorem cmpF_any (x y : FilM) (W : World) : Calls Tryd.prog 37 #[.agg (encF2 x).toArray, .agg (encF2 y).toArray] W fun e w' => e = .returned (.int .i64 (cfF x y)) ∧ ∃ q os', w' = grow (W.drewN q) os' := by
  have hcon := fun W' => compare_any W' x.1 y.1
  show Calls Tryd.prog 37 #[.agg #[encStr x.1, encStr x.2], .agg #[encStr y.1, encStr y.2]] W _
  unfold cfF
  generalize Lib.compareBytes x.1 y.1 = r at hcon ⊢
  unfold encStr at *
  go_enter Tryd.func37, Tryd.ntmps37
  go_wp2_with fail
  refine (hcon _).mono ?_
  rintro e w' ⟨rfl, rfl⟩
  go_wp2
  go_ret
  exact ⟨rfl, 0, _, by rw [alloc_eq_grow, alloc_eq_grow, grow_grow]; rfl⟩


theorem lenB_any (n : Nat) (W : World) (h : n ≤ 12) : Calls Tryd.prog 64 #[.int .u64 n] W fun e w' => (∃ l : Int, e = .returned (.int .i64 l)) ∧ w' = W :=
  (Tryd.bits_Len n W (by omega) (by omega)).mono fun _ _ ⟨he, hw⟩ => ⟨⟨_, he⟩, hw⟩

/-- Files in order. -/
def OrdF (zs : List FilM) : Prop := zs.Pairwise (fun f g => ¬ g.1 < f.1)
theorem ord_of {zs : List FilM} {d : Array FilM} (hd : d.toList = zs) (h : SortedIn (ltOf cfF) 0 d.size d) : OrdF zs := by
  subst hd
  unfold OrdF
  rw [List.pairwise_iff_getElem]
  intro i j hi hj hij
  have := h i j (Nat.zero_le _) hij (by simpa using hj)
  rw [lt_cfF] at this
  have h1 : d[i]! = d.toList[i] := by rw [getElem!_pos _ _ (by simpa using hi)]; simp
  have h2 : d[j]! = d.toList[j] := by rw [getElem!_pos _ _ (by simpa using hj)]; simp
  rw [h1, h2] at this
  simpa using this

theorem ins_none (a : Option Addr) (c : Nat) (w : World) : Calls Tryd.prog 69 #[.slice a 0 c, .int .i64 0, .int .i64 0, .func (.func 37) #[] #[]] w fun e w' => e = .returned (.tuple #[]) ∧ w' = w := by
  go_enter Tryd.func69, Tryd.ntmps69
  go_wp2
  refine wp_loop_rounds 1 ?_
  rw [rounds_succ]
  go_wp2
  go_end0
  exact ⟨rfl, rfl⟩
set_option maxHeartbeats 2000000 in
theorem pdq_none (a : Option Addr) (c : Nat) (l : Int) (w : World) : Calls Tryd.prog 63 #[.slice a 0 c, .int .i64 0, .int .i64 0, .int .i64 l, .func (.func 37) #[] #[]] w fun e w' => e = .returned (.tuple #[]) ∧ w' = w := by
  go_enter Tryd.func63, Tryd.ntmps63
  go_wp2
  refine wp_loop_rounds 1 ?_
  rw [rounds_succ]
  go_wp2_with fail
  refine (ins_none a c _).mono ?_
  rintro e w2 ⟨rfl, rfl⟩
  go_wp2
  refine bodyPost_ret (results_none rfl _ _ _) rfl ?_
  exact ⟨rfl, rfl⟩

/-- What the sort leaves. -/
def SortTo (w : World) (base : Nat) (v : Value) (zs : List FilM) (r : Ending) (w' : World) : Prop :=
  r = .returned (.tuple #[]) ∧ ∃ zs', zs'.Perm zs ∧ OrdF zs' ∧ w'.ownsRow base 41 2 v zs.length (filCells zs') ∧ Only (ownL v) w w'

set_option maxHeartbeats 4000000 in
theorem sortF_any (w : World) (base : Nat) (v : Value) (zs : List FilM) (h : w.ownsRow base 41 2 v zs.length (filCells zs)) (hz : zs.length ≤ 8) :
    Calls Tryd.prog 51 #[v, .func (.func 37) #[] #[]] w (SortTo w base v zs) := by
  by_cases h0 : zs.length = 0
  · have hzs : zs = [] := List.length_eq_zero_iff.1 h0
    subst hzs
    obtain ⟨a, c, rfl⟩ := owns_slice h
    have H := Lib.hid h
    clear h
    simp only [List.length_nil] at *
    go_enter Tryd.func51, Tryd.ntmps51
    go_wp2_with fail
    refine (lenB_any 0 w (by omega)).mono ?_
    rintro e w1 ⟨⟨l, rfl⟩, rfl⟩
    go_wp2_with fail
    refine (pdq_none a c l _).mono ?_
    rintro e w2 ⟨rfl, rfl⟩
    go_wp2
    go_end0
    exact ⟨rfl, [], List.Perm.refl _, List.Pairwise.nil, H.out, Only.refl _ _⟩
  · have hh := h
    rcases h.2 with ⟨h1, h2⟩ | ⟨g, cap, cur, rfl, hb, hg, hc, hm, hsz, ht⟩
    · exact absurd h2 h0
    · have hH : HoldsK encF2 2 w g 0 zs.toArray := fun j hj => by
        have hj2 : j < zs.length * 2 := by simpa using hj
        have h1 : (flatK encF2 2 zs.toArray).toList[j]? = (filCells zs)[j]? := by rw [flat_encF]
        rw [Array.getElem?_toList, Array.getElem?_eq_getElem hj, ← getElem!_pos _ j hj] at h1
        have h2 := World.ownsRow.cells hh (g := g) rfl j _ h1.symm
        rw [Addr.add_mid] at h2
        exact ⟨h2, IsBlk.notFrozen (cs := cur) (t := 41) hg (0 + j)⟩
      have hcon := AnyQ.slices_SortFunc_small_sorted Tryd.sortF 2 Tryd.isAgg41 Tryd.sizeOf41 encF2 (fun _ => rfl) (fun x v hv => by simp [encF2] at hv; rcases hv with rfl | rfl <;> rfl) cfF 37 #[] swo_cfF g 0 cap zs.toArray w
        (enters_of Tryd.func37 (by kernel_rfl) rfl) (fun _ _ _ _ x y => cmpF_any x y _) hH (IsBlk.lt hg) (by simpa using (show zs.length ≤ 12 by omega)) lenB_any
      refine (show Calls Tryd.prog 51 #[.slice (some ⟨g, 0, none⟩) zs.length cap, .func (.func 37) #[] #[]] w _ from hcon).mono ?_
      rintro e w' ⟨rfl, d', n, os, hP, hS, rfl⟩
      have hds : d'.size = zs.length := hP.1
      have hperm : d'.toList.Perm zs := by
        have h3 := hP.2.2
        have e1 : d'.extract 0 zs.toArray.size = d' := by rw [show zs.toArray.size = d'.size by simp [hds]]; exact Array.extract_size
        have e2 : zs.toArray.extract 0 zs.toArray.size = zs.toArray := Array.extract_size
        rw [e1, e2] at h3
        simpa using h3
      have hfl : (flatK encF2 2 d').toList = filCells d'.toList := by have := flat_encF d'.toList; simpa using this
      have hfs : (flatK encF2 2 d').size = zs.length * 2 := by simp [hds]
      refine ⟨rfl, d'.toList, hperm, ord_of rfl (by rw [hds]; simpa using hS), ⟨by rw [length_filCells]; simp [hds], .inr ⟨g, cap, _, rfl, hb, heap_sortedV _ hg, hc, hm, by simp [putCells, hsz], ?_⟩⟩, grown_only (v := .slice (some ⟨g, 0, none⟩) zs.length cap) (grownBy_sortedV _)⟩
      rw [← hfl, ← hfs]
      exact take_putCellsV cur _ (by rw [hfs, hsz]; exact Nat.mul_le_mul_right 2 hc)

end Go.Proofs.YtildkedplmjdaaaDoor
