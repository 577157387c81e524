/-
  slices.Backward of ints, by Go's own text.
-/
import Derived.Test.YtgkddbpfjbgelaaGrE
import Derived.RangeFuncBox
import Derived.RangeFuncLeaves
import Derived.Shelf.Abstract
import Derived.WalkKit
import Derived.OwnWalkIn
import Derived.TacticsInMore
import Derived.LoopNIn
import Derived.LoopIn
import Derived.RangeFuncNested
namespace Go.Proofs.Ytgkddbpfjbgelaa
set_option maxRecDepth 100000
set_option linter.unusedVariables false
open Go.RowKit Go.Shelf

attribute [local go_sem] Oper.semAt_some

/-- The places of a row from the last one back, each with its number. -/
def backL (l : List Nat) : List (Nat × Nat) := (List.range l.length).map (fun k => (l.length - 1 - k, l.getD (l.length - 1 - k) 0))
theorem backL_len (l : List Nat) : (backL l).length = l.length := by simp [backL]
theorem backL_get (l : List Nat) {k : Nat} (h : k < l.length) : (backL l)[k]? = some (l.length - 1 - k, l.getD (l.length - 1 - k) 0) := by simp [backL, h]
/-- These blocks are as they were. -/
def KpS (S : List Nat) (A B : World) : Prop := A.heap.size ≤ B.heap.size ∧ ∀ k ∈ S, B.heap[k]? = A.heap[k]?
theorem KpS.refl (S : List Nat) (A : World) : KpS S A A := ⟨Nat.le_refl _, fun _ _ => rfl⟩
theorem KpS.trans {S : List Nat} {A B C : World} (h : KpS S A B) (k : KpS S B C) : KpS S A C := ⟨Nat.le_trans h.1 k.1, fun i hi => (k.2 i hi).trans (h.2 i hi)⟩
theorem KpS.only {S T : List Nat} {A B : World} (h : Only T A B) (hS : ∀ k ∈ S, k < A.heap.size ∧ k ∉ T) : KpS S A B := ⟨h.size, fun k hk => h.block k (hS k hk).1 (hS k hk).2⟩
theorem KpS.cell {S : List Nat} {A B : World} (h : KpS S A B) {p : Addr} (hp : p.block ∈ S) : B.cell? p = A.cell? p := World.cell?_of_block (w := A) (h.2 p.block hp)

set_option maxRecDepth 100000 in
set_option maxHeartbeats 4000000 in
theorem backs_in {α : Type} (f : α → Nat × Nat) (zs : List α) (F : Fence) (n : Nat) (h7 : F.fn 66) (hro : F.round = none) (hn : 1 ≤ n) (lY Bs cap : Nat) (a : Option Addr) (l : List Nat) (hl : l.length ≤ 1000000) (S : List Nat) (hBS : Bs ∈ S) (hzs : zs.map f = backL l) (J Jx : List α → World → Prop)
    (hY : ∀ pre x W, J pre W → pre.length < zs.length → YieldAt F (n - 1) Try.prog lY #[iv (f x).1, iv (f x).2] W fun e W' =>
      (e = .returned (.bool true) ∧ J (pre ++ [x]) W' ∧ KpS S W W') ∨ (e = .returned (.bool false) ∧ Jx (pre ++ [x]) W'))
    (W : World) (hBs : W.cell? ⟨Bs, 0, none⟩ = some (.slice a l.length cap)) (hc : ∀ (j v : Nat), l[j]? = some v → ∃ g, a = some ⟨g, 0, none⟩ ∧ g ∈ S ∧ W.cell? ⟨g, j, none⟩ = some (iv v)) (h0 : J [] W) :
    CallsIn F n Try.prog 66 #[.func (.yield lY) #[] #[], .pointer (some ⟨Bs, 0, none⟩)] W fun e W' => (∃ v, e = .returned v) ∧
      (J zs W' ∨ (∃ pre, pre <+: zs ∧ Jx pre W')) := by
  have hzl : zs.length = l.length := by rw [← backL_len l, ← hzs, List.length_map]
  refine callsIn_of_wp Try.func66 rfl h7 ?_ hro
  simp only [Try.ntmps66, List.size_toArray, List.length_cons, List.length_nil, Nat.reduceAdd, Nat.reduceSub, Array.replicate_succ, Array.replicate_zero, List.push_toArray, List.append_toArray, List.nil_append, List.cons_append]
  have hw1 : IntKind.i64.wrap ((l.length : Int) - 1) = (l.length : Int) - 1 := by rw [IntKind.wrap_i64]; omega
  gi_wp2
  gi_loopw [3] (fun i wr => ∃ k : Nat, k ≤ l.length ∧ i = .int .i64 ((l.length : Int) - 1 - k) ∧ J (zs.take k) wr ∧ KpS S W wr)
    (fun i _ => (intOf i + 1).toNat)
  case atStart => exact ⟨0, Nat.zero_le _, by simp, h0, KpS.refl _ _⟩
  case round =>
    obtain ⟨k, hk, rfl, hJs, hnx⟩ := hrel
    have hBr := (hnx.cell (p := ⟨Bs, 0, none⟩) hBS).trans hBs
    by_cases hlt : k < l.length
    · have hi0 : (0 : Int) ≤ (l.length : Int) - 1 - k := by omega
      have hix : ((l.length : Int) - 1 - k) = ((l.length - 1 - k : Nat) : Int) := by omega
      have hx := backL_get l hlt
      obtain ⟨x, hxz⟩ : ∃ x, zs[k]? = some x := ⟨zs[k]'(by omega), by simp⟩
      obtain ⟨v, hv⟩ : ∃ v, l[l.length - 1 - k]? = some v := ⟨l[l.length - 1 - k], by simp⟩
      obtain ⟨g, rfl, hgS, hcg⟩ := hc _ _ hv
      have hcg' := (hnx.cell (p := ⟨g, l.length - 1 - k, none⟩) hgS).trans hcg
      have hgd : l.getD (l.length - 1 - k) 0 = v := by rw [List.getD_eq_getElem?_getD, hv]; rfl
      rw [hgd, ← hzs, List.getElem?_map, hxz] at hx
      have hfx : f x = (l.length - 1 - k, v) := by injection hx
      have hlen : (zs.take k).length < zs.length := by rw [List.length_take]; omega
      have htk : zs.take k ++ [x] = zs.take (k + 1) := by rw [List.take_add_one, hxz]; rfl
      obtain ⟨fn, tmps, assign, body, hy, hR⟩ := hY _ x wr hJs hlen
      rw [hfx] at hy
      clear hx hfx
      rw [htk] at hR
      rw [hix]
      have hii : ((l.length - 1 - k : Nat) : Int) < (l.length : Int) := by omega
      have hi2 : (0 : Int) ≤ ((l.length - 1 - k : Nat) : Int) := by omega
      have hw2 : IntKind.i64.wrap (((l.length - 1 - k : Nat) : Int) - 1) = (l.length : Int) - 1 - ((k + 1 : Nat) : Int) := by rw [IntKind.wrap_i64]; omega
      simp only at hy
      clear hix
      generalize hid : l.length - 1 - k = id at *
      unfold iv at *
      gi_wp2
      refine hR.mono ?_
      rintro e W3 (⟨rfl, hJ3, hk3⟩ | ⟨rfl, hJx3⟩)
      · gi_wp2
        go_roundw
        case rel => exact ⟨k + 1, by omega, rfl, hJ3, hnx.trans hk3⟩
        case measure => simp [intOf]; omega
      · gi_wp2
        refine bodyPost_ret (results_none rfl _ _ _) rfl ?_
        exact ⟨⟨_, rfl⟩, .inr ⟨_, List.take_prefix _ _, hJx3⟩⟩
    · obtain rfl : k = l.length := by omega
      rw [List.take_of_length_le (by omega)] at hJs
      have hneg : ¬ (0 : Int) ≤ (l.length : Int) - 1 - (l.length : Int) := by omega
      gi_wp2
      go_end0
      exact ⟨⟨_, rfl⟩, .inl hJs⟩

theorem backs_stops {α : Type} (f : α → Nat × Nat) (zs : List α) (F : Fence) (n : Nat) (h7 : F.fn 66) (hro : F.round = none) (hn : 1 ≤ n) (Bs cap : Nat) (a : Option Addr) (l : List Nat) (hl : l.length ≤ 1000000) (S : List Nat) (hBS : Bs ∈ S) (hzs : zs.map f = backL l) (w : World) (hS : ∀ k ∈ S, k < w.heap.size)
    (hBs : w.cell? ⟨Bs, 0, none⟩ = some (.slice a l.length cap)) (hc : ∀ (j v : Nat), l[j]? = some v → ∃ g, a = some ⟨g, 0, none⟩ ∧ g ∈ S ∧ w.cell? ⟨g, j, none⟩ = some (iv v)) :
    SeqStopsK F n Try.prog 66 #[.pointer (some ⟨Bs, 0, none⟩)] (fun x : α => #[iv (f x).1, iv (f x).2]) (KpS S) (fun ys => ys = zs) (fun pre => pre <+: zs) zs.length w := fun lY J Jx W hW hJ _ hY h0 => by
  refine (backs_in f zs F n h7 hro hn lY Bs cap a l hl S hBS hzs J Jx hY W ((hW.cell (p := ⟨Bs, 0, none⟩) (hS Bs hBS)).trans hBs) (fun j v hv => ?_) h0).mono ?_
  · obtain ⟨g, e, hg, h1⟩ := hc j v hv
    exact ⟨g, e, hg, (hW.cell (p := ⟨g, j, none⟩) (hS g hg)).trans h1⟩
  · rintro e W' ⟨he, hj | ⟨pre, hp, hj⟩⟩
    · exact ⟨he, .inl ⟨_, rfl, hj⟩⟩
    · exact ⟨he, .inr ⟨_, hp, hj⟩⟩

set_option maxHeartbeats 1000000 in
theorem backward_any (v : Value) (w : World) (h1 : v.oneCell' = true) : Calls Try.prog 49 #[v] w fun e w' => e = .returned (.func (.func 66) #[] #[.pointer (some ⟨w.heap.size, 0, none⟩)]) ∧ w' = w.alloc (.cells #[v] 22) := by
  have hv : v.cells = #[v] := by cases v <;> simp_all [Value.oneCell', Value.cells]
  go_enter Try.func49, Try.ntmps49
  go_wp2
  go_ret
  exact ⟨rfl, rfl⟩

end Go.Proofs.Ytgkddbpfjbgelaa
