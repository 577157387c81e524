/-
  slices.Sort of ints; slices.SortFunc of rows of ints, by their first ones: the library's contracts, paid by the program's comparison.
-/
import Derived.Test.YtgkddbpfjbgelaaGrF
import Derived.Test.YtgkddbpfjbgelaaShelf
import Derived.Sort.OwnSortedInts
import Derived.Sort.OwnSorted
import Derived.Shelf.SlSortCmp.Small
namespace Go.Proofs.Ytgkddbpfjbgelaa
set_option maxRecDepth 100000
set_option linter.unusedVariables false
open Go.RowKit Go.Sort Go.Shelf Go.Lib

/-! ### slices.Sort of ints -/
def sortN (l : List Nat) : List Nat := l.mergeSort (fun x y => decide (x ≤ y))
theorem sortN_perm (l : List Nat) : (sortN l).Perm l := List.mergeSort_perm _ _
theorem sortN_len (l : List Nat) : (sortN l).length = l.length := (sortN_perm l).length_eq
theorem sortN_le (l : List Nat) : (sortN l).Pairwise (· ≤ ·) := by
  have := List.pairwise_mergeSort (le := fun x y : Nat => decide (x ≤ y)) (fun a b c h1 h2 => by simp at *; omega) (fun a b => by simp; omega) l
  exact this.imp (fun h => by simpa using h)
theorem sortN_lt {l : List Nat} (h : l.Nodup) : (sortN l).Pairwise (· < ·) := by
  have h1 : (sortN l).Nodup := (sortN_perm l).nodup_iff.2 h
  exact (sortN_le l).imp₂ (fun a b h1 h2 => by omega) h1
theorem ints_sorted (l : List Nat) : ((l.map (fun k : Nat => (k : Int))).mergeSort fun x y => decide (x ≤ y)) = (sortN l).map (fun k : Nat => (k : Int)) := by
  unfold sortN
  rw [List.map_mergeSort]
  intro a _ b _
  simp
theorem map_iv (l : List Nat) : l.map iv = (l.map (fun k : Nat => (k : Int))).map (Value.int .i64) := by rw [List.map_map]; rfl

def SortITo (w : World) (base : Nat) (v : Value) (l : List Nat) (r : Ending) (w' : World) : Prop := r = .returned (.tuple #[]) ∧ RowI w' base v (sortN l) ∧ Only (ownL v) w w'
theorem sortI_any (w : World) (base : Nat) (v : Value) (l : List Nat) (h : RowI w base v l) (hl : l.length ≤ 1000000) : Calls Try.prog 51 #[v] w (SortITo w base v l) := by
  have h' := h
  rcases h.2 with ⟨rfl, hz⟩ | ⟨g, cap, cur, rfl, hbase, hb, r1, r2, r3, r4⟩
  · obtain rfl := List.eq_nil_of_length_eq_zero hz
    refine (Try.slices_Sort_int_none none 0 w).mono ?_
    rintro e w' ⟨rfl, rfl⟩
    exact ⟨rfl, by simpa [sortN] using h', Only.refl _ _⟩
  · have hcon := Try.slices_Sort_int g 0 cap (l.map (fun k : Nat => (k : Int))) w (holds_of_blockI hb (by rw [List.length_map, ← map_iv]; simpa using r4)) (IsBlk.lt hb) (by rw [List.length_map]; omega)
    rw [List.length_map] at hcon
    refine hcon.mono ?_
    rintro e w' ⟨rfl, n, os, rfl⟩
    rw [ints_sorted]
    refine ⟨rfl, ?_, grown_only (v := .slice (some ⟨g, 0, none⟩) l.length cap) (grownBy_sortedI _)⟩
    have := ownsRow_sortedI (n := n) (os := os) (ss := l.map (fun k : Nat => (k : Int))) (ts := (sortN l).map (fun k : Nat => (k : Int))) (by simp [sortN_len]) hbase hb (by simpa using r1) r2 r3
    unfold RowI
    rw [sortN_len, map_iv]
    simpa using this

/-! ### slices.SortFunc of rows -/
def cmpN (a b : Nat) : Int := if a < b then -1 else if b < a then 1 else 0
set_option maxHeartbeats 1000000 in
theorem compareI_any (a b : Nat) (W : World) : Calls Try.prog 54 #[.int .i64 a, .int .i64 b] W fun e w' => e = .returned (.int .i64 (cmpN a b)) ∧ w' = W := by
  unfold cmpN
  by_cases h1 : a < b
  · have i1 : (a : Int) < (b : Int) := by omega
    go_enter Try.func54, Try.ntmps54
    go_wp2
    go_ret
    simp
  · have i1 : ¬ (a : Int) < (b : Int) := by omega
    by_cases h2 : b < a
    · have i2 : (b : Int) < (a : Int) := by omega
      go_enter Try.func54, Try.ntmps54
      go_wp2
      go_ret
      simp
    · have i2 : ¬ (b : Int) < (a : Int) := by omega
      go_enter Try.func54, Try.ntmps54
      go_wp2
      go_ret
      simp

set_option maxHeartbeats 2000000 in
theorem cmpP_any (ga gb na nb ca cb a b : Nat) (W : World) (ha : W.cell? ⟨ga, 0, none⟩ = some (.int .i64 a)) (hb : W.cell? ⟨gb, 0, none⟩ = some (.int .i64 b)) :
    Calls Try.prog 53 #[.slice (some ⟨ga, 0, none⟩) (na + 1) ca, .slice (some ⟨gb, 0, none⟩) (nb + 1) cb] W fun e w' => e = .returned (.int .i64 (cmpN a b)) ∧ ∃ q, w' = W.drewN q := by
  have hs0 : W.drew.cell? ⟨ga, 0, none⟩ = some (.int .i64 a) ∧ W.drew.cell? ⟨gb, 0, none⟩ = some (.int .i64 b) := ⟨ha, hb⟩
  have i1 : (0 : Int) < (na : Int) + 1 := by omega
  have i2 : (0 : Int) < (nb : Int) + 1 := by omega
  go_enter Try.func53, Try.ntmps53
  go_upto_region 1 with fail
  go_region_held3 (fun W => W.cell? ⟨ga, 0, none⟩ = some (.int .i64 a) ∧ W.cell? ⟨gb, 0, none⟩ = some (.int .i64 b)) (first | exact hs0 | assumption)
    (first
      | (go_at_call 54
         with_reducible refine (compareI_any a b _).mono ?_
         rintro e w9 ⟨rfl, rfl⟩))
  go_wp2_with fail
  go_ret
  exact ⟨rfl, 1, rfl⟩

theorem cmpN_lt (a b : Nat) : cmpN a b < 0 ↔ a < b := by
  unfold cmpN
  by_cases h1 : a < b
  · simp [h1]
  · by_cases h2 : b < a <;> simp [h1, h2]
theorem lenG_any (n : Nat) (W : World) (h : n ≤ 12) : Calls Try.prog 64 #[.int .u64 n] W fun e w' => (∃ l : Int, e = .returned (.int .i64 l)) ∧ w' = W :=
  (Try.bits_Len n W (by omega) (by omega)).mono fun _ _ ⟨he, hw⟩ => ⟨⟨_, he⟩, hw⟩
theorem insP_none (a : Option Addr) (c : Nat) (w : World) : Calls Try.prog 93 #[.slice a 0 c, .int .i64 0, .int .i64 0, .func (.func 53) #[] #[]] w fun e w' => e = .returned (.tuple #[]) ∧ w' = w := by
  go_enter Try.func93, Try.ntmps93
  go_wp2
  refine wp_loop_rounds 1 ?_
  rw [rounds_succ]
  go_wp2
  go_end0
  exact ⟨rfl, rfl⟩
set_option maxHeartbeats 2000000 in
theorem pdqP_none (a : Option Addr) (c : Nat) (l : Int) (w : World) : Calls Try.prog 68 #[.slice a 0 c, .int .i64 0, .int .i64 0, .int .i64 l, .func (.func 53) #[] #[]] w fun e w' => e = .returned (.tuple #[]) ∧ w' = w := by
  go_enter Try.func68, Try.ntmps68
  go_wp2
  refine wp_loop_rounds 1 ?_
  rw [rounds_succ]
  go_wp2_with fail
  refine (insP_none a c _).mono ?_
  rintro e w2 ⟨rfl, rfl⟩
  go_wp2
  refine bodyPost_ret (results_none rfl _ _ _) rfl ?_
  exact ⟨rfl, rfl⟩

/-- What sorting rows leaves: the same rows, by their first ones. -/
def SortPTo (w : World) (base : Nat) (v : Value) (ps : List (Value × List Nat)) (r : Ending) (w' : World) : Prop :=
  r = .returned (.tuple #[]) ∧ ∃ qs : List (Value × List Nat), qs.Perm ps ∧ qs.Pairwise (fun p q => ¬ q.2.headD 0 < p.2.headD 0) ∧ w'.ownsRow base 22 1 v ps.length (qs.map (·.1)) ∧ Only (ownL v) w w'

theorem cell_sortWorld {α : Type} [Inhabited α] (enc : α → Value) (w : World) (blk off m : Nat) (dk : Array α) (os : Array Obj) {b j : Nat} {u : Value} (hb : b ≠ blk) (hc : w.cell? ⟨b, j, none⟩ = some u) : (sortWorld enc w blk off m dk os).cell? ⟨b, j, none⟩ = some u := by
  have hlt : b < w.heap.size := World.block_lt_of_cell? _ ⟨b, j, none⟩ hc
  have : (sortWorld enc w blk off m dk os).heap[b]? = w.heap[b]? := by
    unfold sortWorld
    rw [heap_grow_old _ _ (by simpa using hlt)]
    simp only [putRow, mapBlock, Sort.ahead, Array.getElem?_modify]
    rw [if_neg (fun e => hb e.symm)]
  rw [← hc]
  exact World.cell?_of_block (w := w) (w' := sortWorld enc w blk off m dk os) (a := ⟨b, j, none⟩) this

theorem heap_putRow8 {α : Type} [Inhabited α] (enc : α → Value) {w : World} {g : Nat} (d : Array α) (n : Nat) {cur : Array Value} {e : TypeId} {fr : Nat × Nat} (hb : w.heap[g]? = some (.cells cur e fr)) : ((putRow enc w g 0 d).drewN n).heap[g]? = some (.cells (putCells enc 0 d cur) e fr) := by
  show (putRow enc w g 0 d).heap[g]? = _
  simp [putRow, mapBlock, Array.getElem?_modify, hb, onCells]
theorem heap_putRow8_other {α : Type} [Inhabited α] (enc : α → Value) {w : World} {g k : Nat} (d : Array α) (n : Nat) (h : g ≠ k) : ((putRow enc w g 0 d).drewN n).heap[k]? = w.heap[k]? := by
  show (putRow enc w g 0 d).heap[k]? = _
  simp [putRow, mapBlock, Array.getElem?_modify, h]
theorem take_putCells8 {α : Type} [Inhabited α] (enc : α → Value) (cur : Array Value) (d : Array α) (h : d.size ≤ cur.size) : (putCells enc 0 d cur).toList.take d.size = d.toList.map enc := by
  apply List.ext_getElem?
  intro j
  by_cases hj : j < d.size
  · rw [List.getElem?_take_of_lt hj, Array.getElem?_toList]
    simp [putCells, hj, show j < cur.size by omega]
  · rw [List.getElem?_take_eq_none (by omega), List.getElem?_eq_none (by simp; omega)]

set_option maxHeartbeats 4000000 in
theorem sortP_any (w : World) (base : Nat) (v : Value) (ps : List (Value × List Nat)) (h : w.ownsRow base 22 1 v ps.length (ps.map (·.1))) (hz : ps.length ≤ 12)
    (hps : ∀ p ∈ ps, RowI w base p.1 p.2 ∧ p.2 ≠ [] ∧ ∀ b, p.1.ownBlock = some b → v.ownBlock ≠ some b) :
    Calls Try.prog 52 #[v, .func (.func 53) #[] #[]] w (SortPTo w base v ps) := by
  by_cases h0 : ps.length = 0
  · obtain rfl := List.length_eq_zero_iff.1 h0
    obtain ⟨a, c, rfl⟩ := owns_slice h
    have H := Lib.hid h
    clear h
    simp only [List.length_nil] at *
    go_enter Try.func52, Try.ntmps52
    go_wp2_with fail
    refine (lenG_any 0 w (by omega)).mono ?_
    rintro e w1 ⟨⟨l, rfl⟩, rfl⟩
    go_wp2_with fail
    refine (pdqP_none a c l _).mono ?_
    rintro e w2 ⟨rfl, rfl⟩
    go_wp2
    go_end0
    exact ⟨rfl, [], List.Perm.refl _, List.Pairwise.nil, H.out, Only.refl _ _⟩
  · have hh := h
    rcases h.2 with ⟨h1, h2⟩ | ⟨g, cap, cur, rfl, hb, hg, hc, hm, hsz, ht⟩
    · exact absurd h2 h0
    · have hpos : 0 < ps.length := by omega
      let enc : Fin ps.length → Value := fun i => ps[i].1
      let cf : Fin ps.length → Fin ps.length → Int := fun i j => cmpN (ps[i].2.headD 0) (ps[j].2.headD 0)
      haveI : Inhabited (Fin ps.length) := ⟨⟨0, hpos⟩⟩
      have hrow : ∀ i : Fin ps.length, ∃ g' n' c', enc i = .slice (some ⟨g', 0, none⟩) (n' + 1) c' ∧ g' ≠ g ∧ w.cell? ⟨g', 0, none⟩ = some (.int .i64 (ps[i].2.headD 0 : Nat)) := by
        intro i
        obtain ⟨h1, h2, h3⟩ := hps ps[i] (List.getElem_mem _)
        obtain ⟨y, r, e⟩ : ∃ y r, ps[i].2 = y :: r := List.exists_cons_of_ne_nil h2
        have hy : ps[i].2[0]? = some y := by rw [e]; rfl
        obtain ⟨g', c', e1, -, -, hcell⟩ := h1.get hy
        refine ⟨g', r.length, c', by show ps[i].1 = _; rw [e1, e]; rfl, fun e2 => h3 g' (by rw [e1]; rfl) (by rw [e2]; rfl), by rw [hcell, e]; rfl⟩
      have hO : OneCell enc := fun i => by
        obtain ⟨g', n', c', e, -⟩ := hrow i
        rw [e]; rfl
      have hH : Holds enc w g 0 (Array.finRange ps.length) := fun j hj => by
        have hj2 : j < ps.length := by simpa using hj
        have h1 : (ps.map (·.1))[j]? = some (enc ⟨j, hj2⟩) := by simp [enc, hj2]
        have h2 := World.ownsRow.cells hh (g := g) rfl j _ h1
        rw [Addr.add_mid] at h2
        refine ⟨?_, IsBlk.notFrozen (cs := cur) (t := 22) hg (0 + j)⟩
        rw [h2]
        congr 2
        simp [hj2]
      have hlt : ∀ x y, ltOf cf x y = decide (ps[x].2.headD 0 < ps[y].2.headD 0) := fun x y => by
        unfold ltOf
        simp only [cf, cmpN_lt]
      have hS : SWO (ltOf cf) := by
        refine ⟨fun x => ?_, fun x y z h1 h2 => ?_, fun x y z h1 h2 => ?_⟩
        · rw [hlt]; simp
        · rw [hlt] at *; simp only [decide_eq_true_eq] at *; omega
        · rw [hlt] at *; simp only [decide_eq_false_iff_not] at *; omega
      have hcmp : CmpReads Try.prog 53 #[] enc cf g 0 (Array.finRange ps.length).size w := by
        intro m os dk hdk x y
        obtain ⟨ga, na, ca, ea, hna, hca⟩ := hrow x
        obtain ⟨gb, nb, cb, eb, hnb, hcb⟩ := hrow y
        have h1 := cell_sortWorld enc w g 0 m dk os hna hca
        have h2 := cell_sortWorld enc w g 0 m dk os hnb hcb
        simp only [ea, eb, Array.append_empty]
        exact cmpP_any ga gb na nb ca cb _ _ _ h1 h2
      have hcon := Any.slices_SortFunc_small_sorted Try.sortP enc hO cf hS 53 #[] g 0 cap (Array.finRange ps.length) w (enters_of Try.func53 (by kernel_rfl) rfl) hcmp hH (by simpa using hz) lenG_any
      rw [show (Array.finRange ps.length).size = ps.length by simp] at hcon
      refine (show Calls Try.prog 52 #[.slice (some ⟨g, 0, none⟩) ps.length cap, .func (.func 53) #[] #[]] w _ from hcon).mono ?_
      rintro e w' ⟨rfl, d', n, hP, hSd, rfl⟩
      have hds : d'.size = ps.length := by have := hP.1; simpa using this
      have hex : ∀ (n : Nat) (a : Array (Fin n)), a.size = n → a.extract 0 n = a := fun n a h => by
        have h2 := @Array.extract_size _ a
        rwa [h] at h2
      have hperm : d'.toList.Perm (Array.finRange ps.length).toList := by
        have h3 := hP.2.2
        rw [hex _ d' hds, hex _ (Array.finRange ps.length) (by simp)] at h3
        exact h3
      have hfin : (Array.finRange ps.length).toList.map (fun i => ps[i]) = ps := by
        apply List.ext_getElem?
        intro i
        by_cases hi : i < ps.length
        · simp [hi]
        · simp [hi]
      have hord : (d'.toList.map (fun i => ps[i])).Pairwise (fun p q => ¬ q.2.headD 0 < p.2.headD 0) := by
        rw [List.pairwise_map, List.pairwise_iff_getElem]
        intro i j hi hj hij
        have := hSd i j (Nat.zero_le _) hij (by rw [← hds]; simpa using hj)
        rw [hlt] at this
        have h1 : d'[i]! = d'.toList[i] := by rw [getElem!_pos _ _ (by simpa using hi)]; simp
        have h2 : d'[j]! = d'.toList[j] := by rw [getElem!_pos _ _ (by simpa using hj)]; simp
        rw [h1, h2] at this
        simpa using this
      refine ⟨rfl, d'.toList.map (fun i => ps[i]), by have := hperm.map (fun i => ps[i]); rwa [hfin] at this, hord, ⟨by simp [hds], .inr ⟨g, cap, putCells enc 0 d' cur, rfl, hb, heap_putRow8 enc d' n hg, hc, hm, by simp [putCells, hsz], ?_⟩⟩, ⟨rfl, rfl, rfl, by simp [putRow, mapBlock, World.drewN], fun k hk hn' => heap_putRow8_other enc d' n (fun e => hn' (by rw [mem_ownL]; simp [Value.ownBlock, e]))⟩⟩
      have ht8 := take_putCells8 enc cur d' (by omega)
      rw [hds] at ht8
      rw [Nat.mul_one, ht8, List.map_map]
      rfl

end Go.Proofs.Ytgkddbpfjbgelaa
