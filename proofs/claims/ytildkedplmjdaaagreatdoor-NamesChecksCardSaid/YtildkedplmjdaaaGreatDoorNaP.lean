/-
  The files of a slice, one behind the other: slices.Values of files, by Go's own text.
-/
import Derived.Test.YtildkedplmjdaaaGreatDoorNaA
import Derived.RangeFuncBox
import Derived.RangeFuncLeaves
import Derived.Shelf.Abstract
import Derived.WalkKit
import Derived.OwnWalkIn
import Derived.TacticsInMore
import Derived.LoopNIn
import Derived.LoopIn
import Derived.RangeFuncNested
namespace Go.Proofs.YtildkedplmjdaaaGreatDoor
set_option maxRecDepth 100000
set_option linter.unusedVariables false
open Go.RowKit Go.Shelf

attribute [local go_sem] Oper.semAt_some

/-- A file: its name, its text. -/
abbrev FilM := List UInt8 × List UInt8
def filV (f : FilM) : Value := .agg #[encStr f.1, encStr f.2]
def filCells (l : List FilM) : List Value := l.flatMap fun f => [encStr f.1, encStr f.2]
theorem filCells_snoc (l : List FilM) (f : FilM) : filCells (l ++ [f]) = filCells l ++ [encStr f.1, encStr f.2] := by simp [filCells]
theorem length_filCells (l : List FilM) : (filCells l).length = l.length * 2 := by
  induction l with
  | nil => rfl
  | cons f r ih => simp [filCells] at ih ⊢; omega
theorem filCells_at : ∀ (l : List FilM) (j : Nat) (f : FilM), l[j]? = some f → (filCells l)[j * 2]? = some (encStr f.1) ∧ (filCells l)[j * 2 + 1]? = some (encStr f.2)
  | [], j, f, h => by simp at h
  | g :: r, 0, f, h => by simp at h; subst h; simp [filCells]
  | g :: r, j + 1, f, h => by
    have ih := filCells_at r j f (by simpa using h)
    have e : (j + 1) * 2 = j * 2 + 2 := by omega
    have e2 : j * 2 + 2 + 1 = j * 2 + 1 + 2 := by omega
    rw [e, e2]
    simp only [filCells, List.flatMap_cons] at ih ⊢
    simpa using ih

set_option maxRecDepth 100000 in
set_option maxHeartbeats 4000000 in
theorem vals_in (F : Fence) (n : Nat) (h7 : F.fn 95) (hro : F.round = none) (hn : 1 ≤ n) (l Bs n₀ b off cap : Nat) (zs : List FilM) (hreach : zs.length ≤ 1000000) (hb : b < n₀) (J Jx : List FilM → World → Prop)
    (hJa : ∀ pre W o, J pre W → J pre (W.alloc o))
    (hY : ∀ pre x W, J pre W → pre.length < zs.length → YieldAt F (n - 1) Tryz.prog l #[filV x] W fun e W' =>
      (e = .returned (.bool true) ∧ J (pre ++ [x]) W' ∧ Below n₀ W W') ∨ (e = .returned (.bool false) ∧ Jx (pre ++ [x]) W'))
    (W : World) (hn₀ : n₀ ≤ W.heap.size) (hBs : W.cell? ⟨Bs, 0, none⟩ = some (.slice (some ⟨b, off, none⟩) zs.length cap)) (hc : ∀ j f, zs[j]? = some f → W.cell? ⟨b, off + j * 2, none⟩ = some (encStr f.1) ∧ W.cell? ⟨b, off + j * 2 + 1, none⟩ = some (encStr f.2)) (h0 : J [] W) :
    CallsIn F n Tryz.prog 95 #[.func (.yield l) #[] #[], .pointer (some ⟨Bs, 0, none⟩)] W fun e W' => (∃ v, e = .returned v) ∧
      (J zs W' ∨ (∃ pre, pre <+: zs ∧ Jx pre W')) := by
  refine callsIn_of_wp Tryz.func95 rfl h7 ?_ hro
  simp only [Tryz.ntmps95, List.size_toArray, List.length_cons, List.length_nil, Nat.reduceAdd, Nat.reduceSub, Array.replicate_succ, Array.replicate_zero, List.push_toArray, List.append_toArray, List.nil_append, List.cons_append]
  gi_wp2
  gi_loopw [7] (fun i wr => ∃ k : Nat, k ≤ zs.length ∧ i = .int .i64 k ∧ J (zs.take k) wr ∧ Below n₀ W wr)
    (fun i _ => zs.length - (intOf i).toNat)
  case atStart => exact ⟨0, Nat.zero_le _, rfl, h0, Below.refl _ _⟩
  case round =>
    obtain ⟨k, hk, rfl, hJs, hnx⟩ := hrel
    by_cases hlt : k < zs.length
    · obtain ⟨f, hf⟩ : ∃ f, zs[k]? = some f := ⟨_, List.getElem?_eq_getElem hlt⟩
      obtain ⟨hc1, hc2⟩ := hc k f hf
      have hc1' := (hnx.cell (p := ⟨b, off + k * 2, none⟩) hb).trans hc1
      have hc2' := (hnx.cell (p := ⟨b, off + k * 2 + 1, none⟩) hb).trans hc2
      have hlen : (zs.take k).length < zs.length := by rw [List.length_take]; omega
      have htk : zs.take k ++ [f] = zs.take (k + 1) := by rw [List.take_add_one, hf]; rfl
      have hwn : n₀ ≤ wr.heap.size := Nat.le_trans hn₀ hnx.size
      obtain ⟨fn, tmps, assign, body, hy, hR⟩ := hY _ f (wr.alloc (.cells #[encStr f.1, encStr f.2] 46)) (hJa _ _ _ hJs) hlen
      rw [htk] at hR
      unfold filV at hy
      unfold encStr at *
      gi_wp2
      refine hR.mono ?_
      rintro e W3 (⟨rfl, hJ3, hk3⟩ | ⟨rfl, hJx3⟩)
      · gi_wp2
        go_roundw
        case rel => exact ⟨k + 1, by omega, by simp, hJ3, (hnx.alloc hwn _).trans hk3⟩
        case measure => simp [intOf]; omega
      · gi_wp2
        refine bodyPost_ret (results_none rfl _ _ _) rfl ?_
        exact ⟨⟨_, rfl⟩, .inr ⟨_, List.take_prefix _ _, hJx3⟩⟩
    · obtain rfl : k = zs.length := by omega
      rw [List.take_length] at hJs
      gi_wp2
      go_end0
      exact ⟨⟨_, rfl⟩, .inl hJs⟩


set_option maxRecDepth 100000 in
set_option maxHeartbeats 1000000 in
theorem vals_nil_in (F : Fence) (n : Nat) (h7 : F.fn 95) (hro : F.round = none) (l Bs : Nat) (a : Option Addr) (cap : Nat) (J : List FilM → World → Prop) (W : World) (hBs : W.cell? ⟨Bs, 0, none⟩ = some (.slice a 0 cap)) (h0 : J [] W) :
    CallsIn F n Tryz.prog 95 #[.func (.yield l) #[] #[], .pointer (some ⟨Bs, 0, none⟩)] W fun e W' => (∃ v, e = .returned v) ∧ J [] W' := by
  refine callsIn_of_wp Tryz.func95 rfl h7 ?_ hro
  simp only [Tryz.ntmps95, List.size_toArray, List.length_cons, List.length_nil, Nat.reduceAdd, Nat.reduceSub, Array.replicate_succ, Array.replicate_zero, List.push_toArray, List.append_toArray, List.nil_append, List.cons_append]
  gi_wp2
  gi_loopw [7] (fun i wr => i = .int .i64 0 ∧ J [] wr) (fun _ _ => 0)
  case atStart => exact ⟨rfl, h0⟩
  case round =>
    obtain ⟨rfl, hJs⟩ := hrel
    gi_wp2
    go_end0
    exact ⟨⟨_, rfl⟩, hJs⟩

/-- Files of a slice that lies below n₀. -/
def FilesIn (n₀ : Nat) (W : World) (sv : Value) (zs : List FilM) : Prop :=
  ∃ a cap, sv = .slice a zs.length cap ∧ (0 < zs.length → ∃ b off, a = some ⟨b, off, none⟩ ∧ b < n₀ ∧ ∀ j f, zs[j]? = some f → W.cell? ⟨b, off + j * 2, none⟩ = some (encStr f.1) ∧ W.cell? ⟨b, off + j * 2 + 1, none⟩ = some (encStr f.2))
theorem FilesIn.below {n₀ : Nat} {A B : World} {sv : Value} {zs : List FilM} (h : FilesIn n₀ A sv zs) (hb : Below n₀ A B) : FilesIn n₀ B sv zs := by
  obtain ⟨a, cap, e, h⟩ := h
  refine ⟨a, cap, e, fun h0 => ?_⟩
  obtain ⟨b, off, e, hl, hc⟩ := h h0
  exact ⟨b, off, e, hl, fun j f hf => ⟨(hb.cell (p := ⟨b, off + j * 2, none⟩) hl).trans (hc j f hf).1, (hb.cell (p := ⟨b, off + j * 2 + 1, none⟩) hl).trans (hc j f hf).2⟩⟩

theorem vals_stops (F : Fence) (n : Nat) (h7 : F.fn 95) (hro : F.round = none) (hn : 1 ≤ n) (Bs n₀ : Nat) (sv : Value) (zs : List FilM) (hreach : zs.length ≤ 1000000) (w : World) (hBs : Bs < w.heap.size) (hn₀ : n₀ ≤ w.heap.size)
    (hc : w.cell? ⟨Bs, 0, none⟩ = some sv) (hI : FilesIn n₀ w sv zs) :
    SeqStopsK F n Tryz.prog 95 #[.pointer (some ⟨Bs, 0, none⟩)] (fun x : FilM => #[filV x]) (Below n₀) (fun ys => ys = zs) (fun pre => pre <+: zs) zs.length w := fun l J Jx W hW hJ _ hY h0 => by
  have hc' := (hW.cell (p := ⟨Bs, 0, none⟩) hBs).trans hc
  obtain ⟨a, cap, rfl, hcs⟩ := hI.below (hW.mono hn₀)
  have hJa : ∀ pre (V : World) (o : Obj), J pre V → J pre (V.alloc o) := fun pre V o h => hJ pre V _ none h (World.grownBy_alloc V o none) (fun r e => by cases e)
  by_cases hz : 0 < zs.length
  · obtain ⟨b, off, rfl, hb, hcs⟩ := hcs hz
    refine (vals_in F n h7 hro hn l Bs n₀ b off cap zs hreach hb J Jx hJa hY W (Nat.le_trans hn₀ hW.size) hc' hcs h0).mono ?_
    rintro e W' ⟨he, hj | ⟨pre, hp, hj⟩⟩
    · exact ⟨he, .inl ⟨_, rfl, hj⟩⟩
    · exact ⟨he, .inr ⟨_, hp, hj⟩⟩
  · have : zs = [] := by cases zs with
      | nil => rfl
      | cons _ _ => simp at hz
    subst this
    exact (vals_nil_in F n h7 hro l Bs a cap J W hc' h0).mono fun e W' ⟨he, hj⟩ => ⟨he, .inl ⟨_, rfl, hj⟩⟩

theorem infoFl : (Tryz.prog.info? 46).map (fun i => (i.zero, i.size, i.bytes)) = some (some (.agg #[.string ⟨#[]⟩, .string ⟨#[]⟩]), 2, 32) := by kernel_rfl

set_option maxRecDepth 100000 in
set_option maxHeartbeats 4000000 in
/-- slices.AppendSeq of no row and of a slice's files. -/
theorem appseqF_in (F : Fence) (n : Nat) (h3 : F.fn 105) (h7 : F.fn 95) (hro : F.round = none) (hn : 3 ≤ n) (Bs n₀ : Nat) (sv : Value) (zs : List FilM) (hreach : zs.length ≤ 1000000) (w : World) (hBs : Bs < w.heap.size) (hn₀ : n₀ ≤ w.heap.size)
    (hc : w.cell? ⟨Bs, 0, none⟩ = some sv) (hI : FilesIn n₀ w sv zs) :
    CallsIn F n Tryz.prog 105 #[.slice none 0 0, .func (.func 95) #[] #[.pointer (some ⟨Bs, 0, none⟩)]] w fun e W' =>
      ∃ v, e = .returned v ∧ W'.ownsRow w.heap.size 46 2 v zs.length (filCells zs) ∧ Below w.heap.size w W' := by
  have h1 : 1 ≤ n := by omega
  obtain ⟨i0, hi, hz0, hz1, hz2⟩ := info_parts infoFl
  refine callsIn_of_wp_marks Tryz.func105 rfl h3 ?_ hro
  simp only [Tryz.ntmps105, List.size_toArray, List.length_cons, List.length_nil, Nat.reduceAdd, Nat.reduceSub, Array.replicate_succ, Array.replicate_zero, List.push_toArray, List.append_toArray, List.nil_append, List.cons_append]
  gi_wp2
  have bO := Boxed.new w 43 (.slice none 0 0)
  have hB0 : Below w.heap.size w (w.alloc (.cells #[.slice none 0 0] 43)) := (Below.refl _ w).alloc (Nat.le_refl _) _
  have hcb := (hB0.cell (p := ⟨Bs, 0, none⟩) hBs).trans hc
  have hIb := hI.below (hB0.mono hn₀)
  refine wpIn_rangeFunc_ownH hro h1 (gf := 95) (lb := #[.pointer (some ⟨Bs, 0, none⟩)]) rfl h7 (enters_of Tryz.func95 (by kernel_rfl) rfl)
    (vals_stops F (n - 1) h7 hro (by omega) Bs n₀ sv zs hreach _ (by simp; omega) (by simp; omega) hcb hIb) (fun h k => h.trans k) (fun W l o o' hl ho hc hw => (belowK_b (w := w) (by simpa using hn₀) W l o o' (by simp at hl; omega) ho hc hw)) (Below.refl _ _) (fun _ => rfl)
    (fun pre W => (∃ v, Boxed W w.heap.size 43 v ∧ W.ownsRow w.heap.size 46 2 v pre.length (filCells pre) ∧ True) ∧ Below w.heap.size w W)
    (fun _ _ _ => False)
    (OwnFrom.and (Own.from (holdsRow_own w.heap.size w.heap.size 43 46 2 (fun pre => pre.length) (fun pre => filCells pre) (fun pre v => True)) _) (ownFrom_below (Nat.le_refl _) (by simp)))
    (fun _ _ _ _ _ hs _ _ => hs)
    ⟨⟨_, bO, World.ownsRow_nil _ _ _ _, trivial⟩, hB0⟩
    (fun x a' W => ∃ q, a' = { tmps := #[.slice none 0 0, .func (.func 95) #[] #[.pointer (some ⟨Bs, 0, none⟩)], .pointer (some ⟨w.heap.size, 0, none⟩), undef, .slice none 0 0, .pointer (some ⟨q, 0, none⟩), .func (.func 95) #[] #[.pointer (some ⟨Bs, 0, none⟩)], filV x, undef, undef, undef, undef, undef], defers := [] } ∧ W.heap[q]? = some (.cells #[encStr x.1, encStr x.2] 46 (0, 0)))
    (fun x a' => Own.from (fun s A B row hs hg hr => by obtain ⟨q, e, hq⟩ := hs; exact ⟨q, e, (grownBy_keeps_cells hg hr hq rfl).trans hq⟩) _) ?assign ?body ?done ?stop
  case assign =>
    rintro l pre x W K hI hK
    obtain ⟨⟨v, hv, hrow, -⟩, hB⟩ := hI
    have hkeep := hK { tmps := #[.slice none 0 0, .func (.func 95) #[] #[.pointer (some ⟨Bs, 0, none⟩)], .pointer (some ⟨w.heap.size, 0, none⟩), undef, .slice none 0 0, .pointer (some ⟨W.heap.size, 0, none⟩), .func (.func 95) #[] #[.pointer (some ⟨Bs, 0, none⟩)], filV x, undef, undef, undef, undef, undef], defers := [] } (W.alloc (.cells #[encStr x.1, encStr x.2] 46)) ((KeepsOthers.alloc _ _).from _) ((Below.refl _ W).alloc (Nat.le_trans hn₀ hB.size) _) ⟨⟨v, hv.alloc _, hrow.alloc _, trivial⟩, hB.alloc (by exact hB.size) _⟩ ⟨W.heap.size, rfl, World.alloc_heap_new W _⟩
    unfold filV encStr at *
    gi_wp2
    exact hkeep
  case body =>
    rintro l pre x a' W hl hlr ⟨⟨v, hv, hrow, -⟩, hB⟩ ⟨q, rfl, hq⟩ hlt
    have hc := hv.cell
    have q0 : W.cell? ⟨q, 0, none⟩ = some (encStr x.1) := by simp [World.cell?, hq]
    have q1 : W.cell? ⟨q, 1, none⟩ = some (encStr x.2) := by simp [World.cell?, hq]
    have hs := filCells_snoc pre x
    have hcn : ∀ (j : Nat) (u : Value), [encStr x.1, encStr x.2][j]? = some u → (W.alloc (.cells #[encStr x.1, encStr x.2] 46)).cell? ((⟨W.heap.size, 0, none⟩ : Addr).add j) = some u := fun j u hu => by
      rw [Addr.add_mid, Nat.zero_add]
      have hb := IsBlk.made W (.cells #[encStr x.1, encStr x.2] 46)
      rw [hb.cell j]
      match j, hu with
      | 0, hu => simpa using hu
      | 1, hu => simpa using hu
      | k + 2, hu => simp at hu
    unfold filV encStr at *
    gi_wp2_with (gi_at_builtin; refine wpListIn_append_own _ rfl _ _ 43 rfl w.heap.size 46 i0 (.agg #[.string ⟨#[]⟩, .string ⟨#[]⟩]) 2 32 Tryz.underlying43 hi hz0 hz1 hz2 rfl (by decide) _ _ _ rfl (hrow.alloc _) ⟨W.heap.size, 0, none⟩ 1 1 [.string ⟨x.1.toArray⟩, .string ⟨x.2.toArray⟩] rfl rfl hcn (by simp [Value.oneCell']) (by unfold maxLen; omega) (by omega) (by have := hB.size; simp; omega) ?_; intro v' w1 hown' hgrow _; obtain ⟨g', cap', rfl⟩ := ownsRow_succ hown'; obtain ⟨hv1, hv2, hr2, hk2, hb2⟩ := hv.appended (by decide) hrow hB.size (Nat.le_refl _) hown' hgrow; have hc1 := hv1.cell; have hf1 := hv1.frozen)
    exact ⟨hk2.from _, hb2.mono hn₀, ⟨_, hv2, by rw [List.length_append, hs]; exact hr2, trivial⟩, hB.trans hb2⟩
  case done =>
    rintro D ys W hD rfl ⟨⟨v, hv, hrow, -⟩, hB⟩ hK
    have hc := hv.cell
    gi_wp2
    refine ⟨by simp, .inl ⟨_, _, rfl, run_takeDeferred hK, ?_⟩⟩
    exact ⟨_, results_tmp rfl _ _ _, v, rfl, ownsRow_putObj hrow _ hK rfl, hB.trans (belowK_b (w := w) (Nat.le_refl _) W D _ _ (by simp at hD; omega) hK rfl rfl)⟩
  case stop =>
    rintro D c pre W _ _ h _
    exact h.elim

end Go.Proofs.YtildkedplmjdaaaGreatDoor
