/-
  The names of any sets, in rising order, none twice (names); what makes one set of another one, as bytes, whatever both are (changeBytes).
-/
import Derived.Test.YtfampoblcielpaaGreatStW
import Derived.Shelf.SlIter.Collect
import Derived.Lib.RowBridge
namespace Go.Proofs.YtfampoblcielpaaGreat
set_option maxRecDepth 100000
set_option linter.unusedVariables false
open Go.RowKit Go.Maps Go.Sort Go.Shelf
section
variable {P : Program} {ρ : Ren}

/-- What is no cell of the row's type stays where the row grows. -/
theorem stays {W V : World} {base e k : Nat} {v : Value} {xs : List Value} (hr : W.ownsRow base e 1 v k xs) {o' : Obj} (hg : (W.alloc o').grownBy V v.ownBlock) {j : Nat} {o : Obj} (hj : W.heap[j]? = some o) (hno : ∀ cur, o ≠ .cells cur e (0, 0)) : V.heap[j]? = some o := by
  have hlt := (Array.getElem?_eq_some_iff.1 hj).1
  refine (hg.block j (by simp; omega) (fun e' => ?_)).trans ((Below.heap_alloc _ _ j hlt).trans hj)
  rcases ownsRow_ne_a hr hj hno with h | h
  · rw [h] at e'; cases e'
  · exact h e'.symm

/-- The loop over a sequence, where the row was s at the entering. -/
def seqLoop (ρ : Ren) (fn : FuncId) (s f : Value) (B D : Nat) (st : LoopState) : Loop :=
  ⟨st, none, fn, #[s, f, .pointer (some ⟨B, 0, none⟩), undef, .slice none 0 0, undef, f, undef, undef, undef, undef, undef, undef], #[7], AnyZ.apAssign ρ, AnyZ.apBody ρ, D⟩

/-- Between two rounds: the box B holds a row of one's own: old, and what has come. -/
structure Coming (ρ : Ren) (base : Nat) (w : World) (fn : FuncId) (s f : Value) (old : List (List UInt8)) (B l D : Nat) (new : List (List UInt8)) (W : World) : Prop where
  box : ∃ v, W.heap[B]? = some (.cells #[v] (ρ.t 24) (0, 0)) ∧ W.ownsRow base (ρ.t 26) 1 v (old ++ new).length ((old ++ new).map encStr)
  loop : W.heap[l]? = some (.loop (seqLoop ρ fn s f B D .ready))
  late : W.heap[D]? = some (.deferred (some []))
  below : Below base w W

theorem coming_abides {base : Nat} {w : World} {fn : FuncId} {s f : Value} {old : List (List UInt8)} {B l D b : Nat} (hb : base ≤ b) (hw : base ≤ w.heap.size) : AbidesFrom b (Coming ρ base w fn s f old B l D) := by
  intro new W V row h hg hrow
  have hk : ∀ r, row = some r → ∃ o : Obj, W.heap[r]? = some o ∧ o.isWalk = true := fun r e => (hrow r e).2
  obtain ⟨v, h1, h2⟩ := h.box
  refine ⟨⟨v, (grownBy_keeps hg hk h1 rfl).trans h1, ownsRow_abides_a h2 hg hk⟩, (grownBy_keeps hg hk h.loop rfl).trans h.loop, (grownBy_keeps hg hk h.late rfl).trans h.late, ?_⟩
  exact h.below.grown hg (Nat.le_trans hw h.below.size) (fun k e => Nat.le_trans hb (hrow k e).1)

set_option maxHeartbeats 4000000 in
/-- One round: what has come is appended. -/
theorem coming_round (Y : SlLaysZ.n11 P ρ) (F : Fence) (m base : Nat) (w : World) (hw : base ≤ w.heap.size) (fn : FuncId) (hfn : F.fn fn) (a : Option Addr) (n c : Nat) (f : Value) (old : List (List UInt8)) (B l D : Nat) (n1 : B ≠ l) (n2 : D ≠ l) (n3 : D ≠ B) (hB : base ≤ B) (hl : base ≤ l)
    (N : Nat) (hN : old.length + N ≤ 1000000) (new : List (List UInt8)) (x : List UInt8) (W : World) (h : Coming ρ base w fn (.slice a n c) f old B l D new W) (hlen : new.length < N) :
    YieldAt F m P l #[encStr x] W fun e V => e = .returned (.bool true) ∧ Coming ρ base w fn (.slice a n c) f old B l D (new ++ [x]) V ∧ KeepsWalks W V := by
  have mixed := Y.mixed; have t0 := Y.t0; have a0 := Y.a0; have z0 := Y.z0; have v0 := Y.v0; have t24 := Y.t24; have a24 := Y.a24; have z24 := Y.z24; have v24 := Y.v24; have t26 := Y.t26; have a26 := Y.a26; have z26 := Y.z26; have v26 := Y.v26; have t28 := Y.t28; have a28 := Y.a28; have z28 := Y.z28; have v28 := Y.v28
  have u0 := run_underlying Y.t0; have u24 := run_underlying Y.t24; have u26 := run_underlying Y.t26; have u28 := run_underlying Y.t28
  have hty : ρ.t 24 ≠ ρ.t 26 := fun e => by have q := Y.t24; rw [e, Y.t26] at q; cases q
  obtain ⟨i0, hi, hz0, hz1, hz2⟩ := info_parts Y.i26
  obtain ⟨v, hv, hrow⟩ := h.box
  have hsum : old ++ (new ++ [x]) = (old ++ new) ++ [x] := by rw [List.append_assoc]
  have hlt : (old ++ new).length < 1000000 := by rw [List.length_append]; omega
  have hmx : (old ++ new).length + 1 ≤ maxLen := by unfold maxLen; omega
  have hW : base ≤ W.heap.size := Nat.le_trans hw h.below.size
  have hlW : l < W.heap.size := (Array.getElem?_eq_some_iff.1 h.loop).1
  generalize old ++ new = all at *
  refine ⟨fn, #[.slice a n c, f, .pointer (some ⟨B, 0, none⟩), undef, .slice none 0 0, undef, f, encStr x, undef, undef, undef, undef, undef], AnyZ.apAssign ρ, AnyZ.apBody ρ, by simpa [seqLoop] using run_yield (P := P) (args := #[encStr x]) h.loop rfl, roundIn_of_wpIn hfn ?_⟩
  have hbr := run_beginRound (P := P) h.loop rfl
  -- the world in which the loop is busy
  obtain ⟨U, eU⟩ : ∃ U, W.putObj l (.loop { seqLoop ρ fn (.slice a n c) f B D .ready with state := .busy }) = U := ⟨_, rfl⟩
  rw [eU] at hbr
  have gU : W.grownBy U (some l) := eU ▸ grownBy_putObj_a _ _ _
  have kU : KeepsWalks W U := eU ▸ KeepsWalks.putObj _ h.loop rfl
  have lU : U.heap[l]? = some (.loop (seqLoop ρ fn (.slice a n c) f B D .busy)) := eU ▸ World.putObj_heap_same hlW
  have bU : U.heap[B]? = some (.cells #[v] (ρ.t 24) (0, 0)) := eU ▸ (World.putObj_heap_other n1).trans hv
  have dU : U.heap[D]? = some (.deferred (some [])) := eU ▸ (World.putObj_heap_other n2).trans h.late
  clear eU
  have rU := hrow.kept gU (ownsRow_ne_a hrow h.loop (fun cur e => by cases e))
  have sU : Below base w U := h.below.grown gU hW (fun k e => by cases e; exact hl)
  have hU : base ≤ U.heap.size := Nat.le_trans hw sU.size
  obtain ⟨cU, fU⟩ := cell_of_box_a bU
  unfold AnyZ.apAssign
  gi_wp2_with gi_round_op_a
  refine ⟨U, hbr, ?_⟩
  unfold AnyZ.apBody
  gi_wp2_with (first
    | (gi_at_builtin; refine wpListIn_append_own _ rfl _ _ (ρ.t 24) rfl base (ρ.t 26) i0 (.string ⟨#[]⟩) 1 16 Y.t24 hi hz0 hz1 hz2 rfl (by decide) _ _ _ rfl (rU.alloc _) ⟨U.heap.size, 0, none⟩ 1 1 [encStr x] rfl rfl (cell_one_new _ _ _) (by simp [Value.oneCell', encStr]) (by omega) (by omega) (by simp; omega) ?_; intro v' V hown hgV _
       have bV := stays rU hgV bU (fun cur e => hty (Obj.cells.inj e).2.1)
       obtain ⟨cV, fV⟩ := cell_of_box_a bV
       obtain ⟨g, cap, cur, rfl, r0, r1, r2, r3, r4, r5⟩ : ∃ g cap cur, v' = .slice (some ⟨g, 0, none⟩) (all.length + 1) cap ∧ base ≤ g ∧ V.heap[g]? = some (.cells cur (ρ.t 26) (0, 0)) ∧ all.length + 1 ≤ cap ∧ cap ≤ maxLen ∧ cur.size = cap * 1 ∧ cur.toList.take ((all.length + 1) * 1) = all.map encStr ++ [encStr x] := by
         rcases hown.2 with ⟨_, e0⟩ | e1
         · omega
         · exact e1
       go_frame)
    | gi_round_op_a)
  have gV : (U.alloc (.cells #[encStr x] (ρ.t 26))).grownBy V v.ownBlock := hgV
  have lV := stays rU gV lU (fun cur e => by cases e)
  have dV := stays rU gV dU (fun cur e => by cases e)
  have sV : Below base w V := (sU.alloc hU _).grown gV (by simp; omega) (fun k e => (rU.lt k e).1)
  have gX := grownBy_setCell0_a V B (.slice (some ⟨g, 0, none⟩) (all.length + 1) cap)
  have bX := heap_setCell_box_a (.slice (some ⟨g, 0, none⟩) (all.length + 1) cap) bV
  have kX : KeepsWalks W (V.setCell ⟨B, 0, none⟩ (.slice (some ⟨g, 0, none⟩) (all.length + 1) cap)) := ((kU.trans (KeepsWalks.alloc _ _)).trans (KeepsWalks.of_grownBy gV (ownsRow_not_walk_a (rU.alloc _)))).trans (KeepsWalks.setCell _ _ _)
  generalize V.setCell ⟨B, 0, none⟩ (.slice (some ⟨g, 0, none⟩) (all.length + 1) cap) = X at *
  have lX : X.heap[l]? = some (.loop (seqLoop ρ fn (.slice a n c) f B D .busy)) := (gX.block l (Array.getElem?_eq_some_iff.1 lV).1 (fun e => n1 (by cases e; rfl))).trans lV
  have dX : X.heap[D]? = some (.deferred (some [])) := (gX.block D (Array.getElem?_eq_some_iff.1 dV).1 (fun e => n3 (by cases e; rfl))).trans dV
  have rX := hown.kept gX (ownsRow_ne_a hown bV (fun cur e => hty (Obj.cells.inj e).2.1))
  have sX : Below base w X := sV.grown gX (Nat.le_trans hw sV.size) (fun k e => by cases e; exact hB)
  have rZ := rX.kept (grownBy_putObj_a X l (.loop (seqLoop ρ fn (.slice a n c) f B D .ready))) (ownsRow_ne_a rX lX (fun cur e => by cases e))
  refine ⟨_, _, run_endRound none lX, rfl, ⟨⟨_, (World.putObj_heap_other n1).trans bX, ?_⟩, World.putObj_heap_same (Array.getElem?_eq_some_iff.1 lX).1, (World.putObj_heap_other n2).trans dX, sX.grown (grownBy_putObj_a _ _ _) (Nat.le_trans hw sX.size) (fun k e => by cases e; exact hl)⟩, kX.trans (KeepsWalks.putObj _ lX rfl)⟩
  rw [hsum, List.length_append, List.map_append]
  exact rZ

set_option maxHeartbeats 4000000 in
/-- AppendSeq of a row of one's own and of whatever a sequence gives. -/
theorem appendSeq_more (Y : SlLaysZ.n11 P ρ) (F : Fence) (n : Nat) (h11 : F.fn (ρ.f 11)) (hro : F.round = none) (hn : 2 ≤ n) (g : Nat) (lb : Array Value) (hFg : F.fn g) (eg : ∀ args w, (callFunc g args).run P w = .ok (.enter g args) w)
    (S : List (List UInt8) → Prop) (N : Nat) (old : List (List UInt8)) (hN : old.length + N ≤ 1000000) (w : World) (base : Nat) (hw : base ≤ w.heap.size) (a : Option Addr) (k c : Nat) (hown : w.ownsRow base (ρ.t 26) 1 (.slice a k c) old.length (old.map encStr)) (hseq : SeqGives F (n - 1) P g lb encStr S N w) :
    CallsIn F n P (ρ.f 11) #[.slice a k c, .func (.func g) #[] lb] w fun e V => ∃ (v : Value) (new : List (List UInt8)), e = .returned v ∧ S new ∧ V.ownsRow base (ρ.t 26) 1 v (old ++ new).length ((old ++ new).map encStr) ∧ Below base w V := by
  have mixed := Y.mixed; have t0 := Y.t0; have a0 := Y.a0; have z0 := Y.z0; have v0 := Y.v0; have t24 := Y.t24; have a24 := Y.a24; have z24 := Y.z24; have v24 := Y.v24; have t26 := Y.t26; have a26 := Y.a26; have z26 := Y.z26; have v26 := Y.v26; have t28 := Y.t28; have a28 := Y.a28; have z28 := Y.z28; have v28 := Y.v28
  have u0 := run_underlying Y.t0; have u24 := run_underlying Y.t24; have u26 := run_underlying Y.t26; have u28 := run_underlying Y.t28
  have hty : ρ.t 24 ≠ ρ.t 26 := fun e => by have q := Y.t24; rw [e, Y.t26] at q; cases q
  obtain ⟨_, _, hbody⟩ := Y.f11
  refine callsIn_of_wp_marks hbody rfl h11 ?_ hro
  simp only [SlBodyZ.n11_ntmps ρ, List.size_toArray, List.length_cons, List.length_nil, Nat.reduceAdd, Nat.reduceSub, Array.replicate_succ, Array.replicate_zero, List.push_toArray, List.append_toArray, List.nil_append, List.cons_append]
  gi_wp2
  refine wpIn_rangeFunc ?_
  intro fn hfn
  rw [hro]
  -- the box, then what is put off, then the loop
  have b0 : (w.alloc (.cells #[.slice a k c] (ρ.t 24))).heap[w.heap.size]? = some (.cells #[.slice a k c] (ρ.t 24) (0, 0)) := World.alloc_heap_new w _
  have s0 : Below w.heap.size w (w.alloc (.cells #[.slice a k c] (ρ.t 24))) := (Below.refl _ w).alloc (Nat.le_refl _) _
  have o0 := hown.alloc (.cells #[.slice a k c] (ρ.t 24))
  have z0 : (w.alloc (.cells #[.slice a k c] (ρ.t 24))).heap.size = w.heap.size + 1 := by simp
  generalize w.alloc (.cells #[.slice a k c] (ρ.t 24)) = U at *
  have lV := World.alloc_heap_new (U.alloc (.deferred (some []))) (.loop (seqLoop ρ fn (.slice a k c) (.func (.func g) #[] lb) w.heap.size U.heap.size .ready))
  rw [World.size_alloc] at lV
  have dV : ((U.alloc (.deferred (some []))).alloc (.loop (seqLoop ρ fn (.slice a k c) (.func (.func g) #[] lb) w.heap.size U.heap.size .ready))).heap[U.heap.size]? = some (.deferred (some [])) := (Below.heap_alloc _ _ _ (by simp)).trans (World.alloc_heap_new U _)
  have bV : ((U.alloc (.deferred (some []))).alloc (.loop (seqLoop ρ fn (.slice a k c) (.func (.func g) #[] lb) w.heap.size U.heap.size .ready))).heap[w.heap.size]? = some (.cells #[.slice a k c] (ρ.t 24) (0, 0)) := (Below.heap_alloc _ _ _ (by simp; omega)).trans ((Below.heap_alloc _ _ _ (by omega)).trans b0)
  have sV : Below w.heap.size w ((U.alloc (.deferred (some []))).alloc (.loop (seqLoop ρ fn (.slice a k c) (.func (.func g) #[] lb) w.heap.size U.heap.size .ready))) := (s0.alloc s0.size _).alloc (by have := s0.size; simp; omega) _
  have oV := (o0.alloc (.deferred (some []))).alloc (.loop (seqLoop ρ fn (.slice a k c) (.func (.func g) #[] lb) w.heap.size U.heap.size .ready))
  have eV := run_enterLoop_outer (P := P) (w := U) fn #[.slice a k c, .func (.func g) #[] lb, .pointer (some ⟨w.heap.size, 0, none⟩), undef, .slice none 0 0, undef, .func (.func g) #[] lb, undef, undef, undef, undef, undef, undef] #[7] (AnyZ.apAssign ρ) (AnyZ.apBody ρ)
  change _ = Result.ok _ ((U.alloc (.deferred (some []))).alloc (.loop (seqLoop ρ fn (.slice a k c) (.func (.func g) #[] lb) w.heap.size U.heap.size .ready))) at eV
  generalize (U.alloc (.deferred (some []))).alloc (.loop (seqLoop ρ fn (.slice a k c) (.func (.func g) #[] lb) w.heap.size U.heap.size .ready)) = V at *
  have tV : Below base w V := ⟨sV.os, sV.tape, sV.output, sV.size, fun j hj => sV.block j (by omega)⟩
  have hstart : Coming ρ base w fn (.slice a k c) (.func (.func g) #[] lb) old w.heap.size (U.heap.size + 1) U.heap.size [] V := ⟨⟨_, bV, by rw [List.append_nil]; exact oV⟩, lV, dV, tV⟩
  refine ⟨U.heap.size + 1, [⟨.collected U.heap.size, #[]⟩], V, ⟨.fn (.func g) lb, #[.func (.yield (U.heap.size + 1)) #[] #[]]⟩, V, g, #[.func (.yield (U.heap.size + 1)) #[] #[]] ++ lb, V, eV, ?_, ?_, ?_, fun _ => by omega, ?_⟩
  · simp [resolve, go_sem]
  · intro f' hf'; simp [Target.leads] at hf'; subst hf'; exact hFg
  · simp [invoke, go_sem, eg]
  refine (hseq (U.heap.size + 1) _ V sV (coming_abides (Nat.le_trans hw sV.size) hw) (fun pre x W hJ hl => coming_round { Y with } F (n - 1 - 1) base w hw fn hfn a k c _ old w.heap.size (U.heap.size + 1) U.heap.size (by omega) (by omega) (by omega) hw (by omega) N hN pre x W hJ hl) hstart).mono ?_
  rintro e W ⟨⟨v0, rfl⟩, new, hS, hW⟩
  obtain ⟨v, hv, hrow⟩ := hW.box
  have hend := run_endLoop (P := P) hW.loop (by simp [seqLoop])
  have gX := grownBy_putObj_a W (U.heap.size + 1) (.loop (seqLoop ρ fn (.slice a k c) (.func (.func g) #[] lb) w.heap.size U.heap.size .exhausted))
  have bX : (W.putObj (U.heap.size + 1) (.loop (seqLoop ρ fn (.slice a k c) (.func (.func g) #[] lb) w.heap.size U.heap.size .exhausted))).heap[w.heap.size]? = some (.cells #[v] (ρ.t 24) (0, 0)) := (World.putObj_heap_other (by omega)).trans hv
  have dX : (W.putObj (U.heap.size + 1) (.loop (seqLoop ρ fn (.slice a k c) (.func (.func g) #[] lb) w.heap.size U.heap.size .exhausted))).heap[U.heap.size]? = some (.deferred (some [])) := (World.putObj_heap_other (by omega)).trans hW.late
  have rX := hrow.kept gX (ownsRow_ne_a hrow hW.loop (fun cur e => by cases e))
  have sX := hW.below.grown gX (Nat.le_trans hw hW.below.size) (fun k e => by cases e; omega)
  change _ = Result.ok _ (W.putObj (U.heap.size + 1) (.loop (seqLoop ρ fn (.slice a k c) (.func (.func g) #[] lb) w.heap.size U.heap.size .exhausted))) at hend
  generalize W.putObj (U.heap.size + 1) (.loop (seqLoop ρ fn (.slice a k c) (.func (.func g) #[] lb) w.heap.size U.heap.size .exhausted)) = X at *
  obtain ⟨cX, fX⟩ := cell_of_box_a bX
  refine ⟨none, X, hend, ?_⟩
  gi_wp2
  rw [← z0]
  refine ⟨by simp, .inl ⟨_, _, rfl, run_takeDeferred dX, _, results_tmp rfl _ _ _, v, new, rfl, hS, rX.kept (grownBy_putObj_a _ _ _) (ownsRow_ne_a rX dX (fun cur e => by cases e)), sX.grown (grownBy_putObj_a _ _ _) (Nat.le_trans hw sX.size) (fun k e => by cases e; omega)⟩⟩
end

/-- AppendSeq of a row of one's own and of a set's names. -/
theorem appseq_any (w : World) (b q base : Nat) (F : List FileM) (old : List (List UInt8)) (a : Option Addr) (k c : Nat) (h : SetAt w b F) (hF : F.length ≤ 1000) (ho : old.length ≤ 10000) (hb : base ≤ w.heap.size) (hown : OwnS w base (.slice a k c) old) (hq : q < w.heap.size) (hc : w.cell? ⟨q, 0, none⟩ = some (.map (some b))) :
    Calls Tryz.prog 66 #[.slice a k c, .func (.func 79) #[] #[.pointer (some ⟨q, 0, none⟩)]] w
      fun e w' => ∃ v new, e = .returned v ∧ new.Perm (F.map (·.1)) ∧ OwnS w' base v (old ++ new) ∧ (∀ w0, Only [] w0 w → w0.heap.size ≤ base → Only [] w0 w') := by
  have hsz : Maps.size (setD F) = F.length := by simp [setD, Maps.size]
  have hseq : SeqGives Fence.wide 5 Tryz.prog 79 #[.pointer (some ⟨q, 0, none⟩)] encStr (fun ss => ss.Perm (strKeys (setD F))) (Maps.size (setD F)) w :=
    AnyZ.keys_gives (ρ := Tryz.keysA_ren) { Tryz.keysA with } Fence.wide _ trivial rfl (by omega) q b F.length (setD F) w hq hc h
  have hk : strKeys (setD F) = F.map (·.1) := by simp [strKeys, setD, entD, strOf]
  refine ((callsIn_wide (n := 6)).1 (appendSeq_more Tryz.appA Fence.wide 6 trivial rfl (by omega) 79 #[.pointer (some ⟨q, 0, none⟩)] trivial (enters_of Tryz.func79 (by kernel_rfl) rfl) _ _ old (by rw [hsz]; omega) w base hb a k c hown hseq)).mono ?_
  rintro e w' ⟨v, new, rfl, hS, hrow, hB⟩
  exact ⟨v, new, rfl, by rw [← hk]; exact hS, hrow, fun w0 hO h0 => ⟨hB.os.trans hO.os, hB.tape.trans hO.tape, hB.output.trans hO.output, Nat.le_trans hO.size hB.size, fun j hj hm => (hB.block j (by omega)).trans (hO.block j hj hm)⟩⟩

end Go.Proofs.YtfampoblcielpaaGreat
namespace Go.Proofs.YtfampoblcielpaaGreat
set_option maxRecDepth 100000
set_option linter.unusedVariables false
open Go.RowKit Go.Sort Go.Maps

def namesL (Fs : List (List FileM)) : List (List UInt8) := Fs.flatMap fun F => F.map (·.1)
def namesM (Fs : List (List FileM)) : List (List UInt8) := Lib.compact ((namesL Fs).mergeSort fun x y => decide (x ≤ y))
theorem namesM_len (Fs : List (List FileM)) : (namesM Fs).length ≤ (namesL Fs).length := by
  have := Lib.compact_length_le ((namesL Fs).mergeSort fun x y => decide (x ≤ y))
  rw [List.length_mergeSort] at this
  exact this
theorem compact_mem {zs : List (List UInt8)} {n : List UInt8} (h : n ∈ Lib.compact zs) : n ∈ zs := by
  unfold Lib.compact Lib.compactUpTo at h
  obtain ⟨j, hj, rfl⟩ := List.mem_map.1 h
  have hlt : j < zs.length := List.mem_range.1 (List.mem_filter.1 hj).1
  have e : zs.toArray[j]! = zs[j] := by rw [getElem!_pos zs.toArray j (by simpa using hlt)]; simp
  rw [e]
  exact List.getElem_mem hlt
theorem namesM_mem {Fs : List (List FileM)} {n : List UInt8} (h : n ∈ namesM Fs) : n ∈ namesL Fs := List.mem_mergeSort.1 (compact_mem h)

/-- The first of a row of texts. -/
theorem OwnS.firsts {w : World} {base g n cap m : Nat} {ts : List (List UInt8)} (h : OwnS w base (.slice (some ⟨g, 0, none⟩) n cap) ts) (hm : m ≤ ts.length) : OwnS w base (.slice (some ⟨g, 0, none⟩) m cap) (ts.take m) := by
  rcases h.2 with ⟨e, -⟩ | ⟨g', cap', cur, e, hb, hg, r1, r2, r3, r4⟩
  · cases e
  · injection e with e1 e2 e3
    injection e1 with e1
    injection e1 with e1 e4
    subst e1
    subst e3
    have hl : (ts.take m).length = m := by rw [List.length_take]; omega
    refine ⟨by simp, .inr ⟨g, cap, cur, by rw [hl], hb, hg, by rw [hl]; omega, r2, r3, ?_⟩⟩
    rw [hl, Nat.mul_one, List.map_take]
    rw [Nat.mul_one] at r4
    rw [← r4, List.take_take, show min m ts.length = m by omega]
theorem OwnS.of {w : World} {base n : Nat} {v : Value} {ts : List (List UInt8)} (hl : ts.length = n) (h : w.ownsRow base 9 1 v n (ts.map encStr)) : OwnS w base v ts := by
  unfold OwnS
  rw [hl]
  exact h
theorem compact_any (w : World) (base : Nat) (v : Value) (ss : List (List UInt8)) (h : OwnS w base v ss) (hl : ss.length ≤ 100000) :
    Calls Tryz.prog 69 #[v] w fun e w' => ∃ v', e = .returned v' ∧ OwnS w' base v' (Lib.compact ss) ∧ ∀ w0, Only [] w0 w → w0.heap.size ≤ base → Only [] w0 w' := by
  have h' := h
  have hcl := Lib.compact_length_le ss
  rcases h.2 with ⟨rfl, hz⟩ | ⟨g, cap, cur, rfl, hbase, hb, r1, r2, r3, r4⟩
  · have hss : ss = [] := List.eq_nil_of_length_eq_zero hz
    subst hss
    refine (Tryz.slices_Compact_string_empty none 0 w).mono ?_
    rintro e w' ⟨rfl, rfl⟩
    exact ⟨_, rfl, h', fun w0 hO _ => hO⟩
  · have hm : ss.length ≤ 9223372036854775807 := by omega
    refine (Tryz.slices_Compact_string g 0 cap ss w (holds_of_block hb (by simpa using r4)) hm r1).mono ?_
    rintro e w' ⟨rfl, n, rfl⟩
    have hlen : (Lib.compact ss ++ List.replicate (ss.length - (Lib.compact ss).length) ([] : List UInt8)).length = ss.length := by simp; omega
    rw [← grow_empty (putRow encStr (Sort.ahead w n) g 0 (Lib.compact ss ++ List.replicate (ss.length - (Lib.compact ss).length) ([] : List UInt8)).toArray)]
    have ho := ownsRow_sorted (n := n) (os := #[]) (ts := Lib.compact ss ++ List.replicate (ss.length - (Lib.compact ss).length) ([] : List UInt8)) hlen hbase hb r1 r2 r3
    have ho2 := OwnS.of hlen ho
    have ho3 := ho2.firsts (m := (Lib.compact ss).length) (by rw [hlen]; exact hcl)
    rw [List.take_left] at ho3
    exact ⟨_, rfl, ho3, fun w0 hO h0 => only_row hO (grownBy_sorted _) hbase h0⟩

set_option maxHeartbeats 4000000 in
theorem names_all (w : World) (g cap : Nat) (Ls : List (Nat × List FileM)) (h : SetsAt w g Ls) (hk9 : Ls.length ≤ 9) (hF : ∀ x ∈ Ls, x.2.length ≤ 1000) :
    Calls Tryz.prog 45 #[.slice (some ⟨g, 0, none⟩) Ls.length cap] w fun e w' => ∃ v, e = .returned v ∧ OwnS w' w.heap.size v (namesM (Ls.map (·.2))) ∧ Only [] w w' := by
  have H := Lib.hid h
  have HF := Lib.hid hF
  have hlenN : ∀ Xs : List (Nat × List FileM), (∀ x ∈ Xs, x.2.length ≤ 1000) → (namesL (Xs.map (·.2))).length ≤ 1000 * Xs.length := by
    intro Xs
    induction Xs with
    | nil => simp [namesL]
    | cons x r ih =>
      intro hx
      have h1 := hx x (by simp)
      have h2 := ih (fun y hy => hx y (by simp [hy]))
      simp only [namesL, List.map_cons, List.flatMap_cons, List.length_append, List.length_map, List.length_cons] at h2 ⊢
      omega
  have HlN := Lib.hid hlenN
  clear h hF hlenN
  go_enter Tryz.func45, Tryz.ntmps45
  go_wp2_with fail
  go_loopw [8, 3] (fun i s3 wr => ∃ (j : Nat) (ss : List (List UInt8)), j ≤ Ls.length ∧ i = .int .i64 j ∧ Hid (ss.Perm (namesL ((Ls.take j).map (·.2)))) ∧ OwnS wr w.heap.size s3 ss ∧ Only [] w wr) (fun i _ _ => Ls.length - (intOf i).toNat)
  case atStart => exact ⟨0, [], by omega, rfl, Lib.hid (by simp [namesL]), ⟨rfl, .inl ⟨rfl, rfl⟩⟩, Only.refl _ _⟩
  case round =>
    obtain ⟨j, ss, hj, rfl, hperm, hown, hO⟩ := hrel
    have HO := Lib.hid hO
    have Hown := Lib.hid hown
    obtain ⟨aS, cS, rfl⟩ := hown.len
    clear hO hown
    have hssl : ss.length ≤ 9000 := by
      have h1 := hperm.out.length_eq
      have h2 := HlN.out (Ls.take j) (fun x hx => HF.out x (List.mem_of_mem_take hx))
      rw [List.length_take] at h2
      omega
    by_cases hlt : j < Ls.length
    · have hlti : (j : Int) < (Ls.length : Int) := by omega
      have hS := H.out.more HO.out
      obtain ⟨⟨bj, Fj⟩, hx⟩ : ∃ x, Ls[j]? = some x := ⟨_, List.getElem?_eq_getElem hlt⟩
      obtain ⟨hc, hs⟩ := hS.2 j _ hx
      simp only at hc hs
      have Hs := Lib.hid hs
      have hFj : Fj.length ≤ 1000 := HF.out _ (List.mem_of_getElem? hx)
      have Htk : Hid (namesL ((Ls.take (j + 1)).map (·.2)) = namesL ((Ls.take j).map (·.2)) ++ Fj.map (·.1)) := Lib.hid (by rw [List.take_add_one, hx]; simp [namesL])
      clear hS hs hx
      go_wp2_with fail
      refine (keys_call _ bj).mono ?_
      rintro e w1 ⟨rfl, hw1⟩
      have hO1 : Only [] wr w1 := by rw [hw1]; exact (Only.refl _ _).alloc _
      have hc1 : w1.cell? ⟨wr.heap.size, 0, none⟩ = some (.map (some bj)) := by rw [hw1]; exact IsBlk.cell (IsBlk.made wr _) 0
      have hq1 : wr.heap.size < w1.heap.size := by rw [hw1]; simp
      have Hc1 := Lib.hid hc1
      have HO1 := Lib.hid hO1
      have hsz : w.heap.size ≤ w1.heap.size := Nat.le_trans HO.out.size hO1.size
      clear hw1 hc1 hO1
      go_wp2_with fail
      refine (appseq_any _ bj wr.heap.size w.heap.size Fj ss aS _ cS (Hs.out.more HO1.out) hFj (by omega) hsz (Hown.out.only HO1.out) hq1 Hc1.out).mono ?_
      rintro e w2 ⟨v, new, rfl, hp, how, hO2⟩
      have HO2 := Lib.hid (hO2 w (HO.out.plus HO1.out) (Nat.le_refl _))
      have How := Lib.hid how
      have Hp := Lib.hid hp
      clear how hO2 hp
      go_wp2
      go_roundw
      case rel => exact ⟨j + 1, ss ++ new, by omega, by go_num, Lib.hid (by rw [Htk.out]; exact hperm.out.append Hp.out), How.out, HO2.out⟩
      case measure => simp [intOf]; omega
    · have hge : ¬ (j : Int) < (Ls.length : Int) := by omega
      have hjl : j = Ls.length := by omega
      subst hjl
      rw [List.take_length] at hperm
      have Hsort := Lib.hid (mergeSort_of_perm hperm.out)
      go_wp2_with fail
      refine (sort_own _ w.heap.size _ ss Hown.out (by omega)).mono ?_
      rintro e w1 ⟨rfl, ho1, hO1⟩
      have HO1 := Lib.hid (hO1 w HO.out (Nat.le_refl _))
      have Ho1 := Lib.hid ho1
      clear ho1 hO1
      go_wp2_with fail
      refine (compact_any _ w.heap.size _ _ Ho1.out (by rw [List.length_mergeSort]; omega)).mono ?_
      rintro e w2 ⟨v2, rfl, ho2, hO2⟩
      rw [Hsort.out] at ho2
      have HO2 := Lib.hid (hO2 w HO1.out (Nat.le_refl _))
      have Ho2 := Lib.hid ho2
      clear ho2 hO2
      go_wp2
      go_ret
      exact ⟨_, rfl, Ho2.out, HO2.out⟩

set_option maxHeartbeats 8000000 in
theorem change_gen (w : World) (b c : Nat) (G F : List FileM) (hg : SetAt w c G) (hf : SetAt w b F) (hM : Modest F) (hMG : Modest G) (hs : G.length + F.length ≤ 255) :
    Calls Tryz.prog 44 #[.map (some c), .map (some b)] w fun e w' => ∃ v, e = .returned v ∧ OwnB w' w.heap.size v (changeB G F (namesM [G, F])) ∧ Only [] w w' := by
  have Hg := Lib.hid hg
  have hG := hMG.1
  have hns : (namesM [G, F]).length ≤ 255 := by have := namesM_len [G, F]; simp [namesL] at this; omega
  have Hns : Hid (∀ n ∈ namesM [G, F], n.length ≤ 255) := Lib.hid (fun n hn => by
    have := namesM_mem hn
    simp only [namesL, List.flatMap_cons, List.flatMap_nil, List.append_nil, List.mem_append, List.mem_map] at this
    rcases this with ⟨f, hf, rfl⟩ | ⟨f, hf, rfl⟩
    · exact (hMG.2 f hf).1
    · exact (hM.2 f hf).1)
  have Hf := Lib.hid hf
  have hF := hM.1
  have HM := Lib.hid hM.2
  clear hg hf hM hMG
  go_enter Tryz.func44, Tryz.ntmps44
  have hg2 := IsBlk.made w (.cells #[.map (some c), .map (some b)] 57)
  have HO1 := Lib.hid ((Only.refl [] w).alloc (.cells #[.map (some c), .map (some b)] 57))
  go_wp2_with fail
  refine (names_all _ w.heap.size _ [(c, G), (b, F)] ⟨hg2.lt, fun i x hx => ?hset⟩ (by simp) (fun x hx => ?hpre)).mono ?_
  case hset =>
    match i, hx with
    | 0, hx => simp at hx; subst hx; exact ⟨hg2.cell 0, Hg.out.more HO1.out⟩
    | 1, hx => simp at hx; subst hx; exact ⟨hg2.cell 1, Hf.out.more HO1.out⟩
    | n + 2, hx => simp at hx
  case hpre =>
    simp at hx
    rcases hx with rfl | rfl <;> simp only <;> omega
  rintro e w2 ⟨vN, rfl, hoN, hO2⟩
  have hoN : OwnS w2 _ vN (namesM [G, F]) := hoN
  generalize hnE : namesM [G, F] = ns at *
  have HnE := Lib.hid hnE
  clear hnE
  obtain ⟨aN, cN, rfl⟩ := hoN.len
  have HoN := Lib.hid hoN
  have HO2 := Lib.hid (HO1.out.plus hO2)
  clear hoN hO2 hg2 HO1
  have hsz2 := HO2.out.size
  go_wp2_with fail
  go_loopw [16, 5, 6] (fun i s5 s6 wr => ∃ j : Nat, j ≤ ns.length ∧ i = .int .i64 j ∧ s5 = .int .i64 ((chgL G F (ns.take j)).length : Nat) ∧ OwnB wr w2.heap.size s6 (chgL G F (ns.take j)).flatten ∧ OwnS wr (w.heap.size + 1) (.slice aN ns.length cN) ns ∧ Only [] w2 wr) (fun i _ _ _ => ns.length - (intOf i).toNat)
  case atStart => exact ⟨0, by omega, rfl, rfl, OwnB.nil _ _, by simpa using HoN.out, Only.refl _ _⟩
  case round =>
    obtain ⟨j, hj, rfl, rfl, hown, hN, hO⟩ := hrel
    have Hown := Lib.hid hown
    have HNj := Lib.hid hN
    have HO := Lib.hid hO
    clear hown hN hO
    by_cases hlt : j < ns.length
    · have hlti : (j : Int) < (ns.length : Int) := by omega
      obtain ⟨gN, cN', e, hcell⟩ := HNj.out.cell (j := j) hlt
      injection e with e1 e2 e3
      subst e1 e3
      have Hgr := Hg.out.more (HO2.out.plus HO.out)
      have Hfr := Hf.out.more (HO2.out.plus HO.out)
      have hnb := Hns.out _ (List.getElem_mem hlt)
      have hnm : ns[j].length ≤ maxLen := by unfold maxLen; omega
      have hgf := run_get wr b F ns[j] true Hfr hnm
      have hgg := fun o : Obj => run_get (wr.alloc o) c G ns[j] false (Hgr.more ((Only.refl [] wr).alloc o)) hnm
      rw [if_pos rfl] at hgf
      simp only [Bool.false_eq_true, if_false] at hgg
      have htk : Hid (ns.take (j + 1) = ns.take j ++ [ns[j]]) := Lib.hid (by rw [List.take_add_one, List.getElem?_eq_getElem hlt]; rfl)
      generalize ns[j] = n at *
      have hsome : Hid ((getS n F).isSome = true → n.length ≤ 255 ∧ (atF n F).2.length ≤ 3000 ∧ (atF n F).1 = n) := Lib.hid (fun h => by
        obtain ⟨g, hg⟩ := Option.isSome_iff_exists.1 h
        have hm := List.mem_of_find?_eq_some hg
        have h1 := HM.out g hm
        have h2 := get_name hg
        have h3 : atF n F = g := by unfold atF; rw [hg]; rfl
        rw [h3]
        exact ⟨by omega, h1.2, h2⟩)
      have hxe : ∃ x, (getS n F).getD ([], []) = x := ⟨_, rfl⟩
      have hye : ∃ y, (getS n G).getD ([], []) = y := ⟨_, rfl⟩
      obtain ⟨⟨xn, xt⟩, hx⟩ := hxe
      obtain ⟨⟨yn, yt⟩, hy⟩ := hye
      rw [hx] at hgf
      rw [hy] at hgg
      have Hx : Hid (atF n F = (xn, xt)) := Lib.hid hx
      have Hy : Hid (atF n G = (yn, yt)) := Lib.hid hy
      unfold fileV encStr at hgf hgg
      unfold encStr at hcell
      simp only at hgf hgg
      obtain ⟨is, his⟩ : ∃ is, (getS n F).isSome = is := ⟨_, rfl⟩
      rw [his] at hgf
      have His := Lib.hid his
      clear hx hy his Hgr Hfr
      generalize hL : chgL G F (ns.take j) = CL at *
      have HL := Lib.hid hL
      clear hL
      have hOa := Lib.hid ((Only.refl [] wr).alloc (.cells #[.string ⟨xn.toArray⟩, .string ⟨xt.toArray⟩] 48))
      have hszr := HO.out.size
      have hCL : CL.length ≤ 255 := by
        have h1 : CL.length ≤ (ns.take j).length := by rw [← HL.out]; exact List.length_filterMap_le _ _
        rw [List.length_take] at h1
        omega
      have hCF : CL.flatten.length ≤ 840000 := by
        have := chg_flat (G := G) HM.out (ns.take j) (fun n hn => Hns.out n (List.mem_of_mem_take hn))
        rw [HL.out, List.length_take] at this
        have h2 : 3290 * min j ns.length ≤ 3290 * 255 := Nat.mul_le_mul_left _ (by omega)
        omega
      have hnl : n.length ≤ 255 := hnb
      by_cases hb1 : xn = yn
      · subst hb1
        by_cases hb2 : xt = yt
        · subst hb2
          have He : Hid (chgE G F n = none) := Lib.hid (by
            unfold chgE; rw [Hx.out, Hy.out, if_pos rfl])
          go_wp2
          go_roundw
          case rel =>
            refine ⟨j + 1, by omega, by go_num, ?_, ?_, HNj.out.only hOa.out, HO.out.plus hOa.out⟩
            · rw [htk.out, chgL_snoc, HL.out, He.out]; simp
            · rw [htk.out, chgL_snoc, HL.out, He.out]
              simp only [Option.toList_none, List.append_nil]
              exact rowOnly Hown.out hOa.out
          case measure => simp [intOf]; omega
        · cases is with
          | true =>
            obtain ⟨hn1, hn2, hn3⟩ := hsome.out His.out
            rw [Hx.out] at hn2 hn3
            simp only at hn2 hn3
            have hxn : xn.length ≤ 255 := by rw [hn3]; exact hn1
            clear hn3
            have He : Hid (chgE G F n = some (leB 1 1 ++ fileB (xn, xt))) := Lib.hid (by unfold chgE; rw [Hx.out, Hy.out, if_neg (by intro e; injection e with e1 e2; exact hb2 e2), His.out]; rfl)
            go_wp2_with fail
            refine (layNumber_any _ w2.heap.size _ 1 1 _ (rowOnly Hown.out hOa.out) (Nat.le_trans hszr hOa.out.size) (by omega) (by omega) (by omega)).mono ?_
            rintro e w3 ⟨v3, rfl, h3, hB3⟩
            have hb3 := hB3.blk (IsBlk.made wr _) (by decide)
            have q0 : w3.cell? ⟨wr.heap.size, 0, none⟩ = some (.string ⟨xn.toArray⟩) := hb3.cell 0
            have q1 : w3.cell? ⟨wr.heap.size, 1, none⟩ = some (.string ⟨xt.toArray⟩) := hb3.cell 1
            have H3 := Lib.hid h3
            have HN3 := Lib.hid (hB3.row (HNj.out.only hOa.out) (by decide))
            have HO3 := Lib.hid (hB3.only (HO.out.plus hOa.out) (Nat.le_refl _))
            have hs3 : w2.heap.size ≤ w3.heap.size := HO3.out.size
            clear h3 hB3 hb3
            go_wp2_with fail
            refine (layFile_any _ w2.heap.size _ (xn, xt) _ H3.out hs3 (by rw [List.length_append, length_leB]; omega) (by simp only; omega) (by simp only; omega)).mono ?_
            rintro e w4 ⟨v4, rfl, h4, hB4⟩
            have H4 := Lib.hid h4
            have HN4 := Lib.hid (hB4.row HN3.out (by decide))
            have HO4 := Lib.hid (hB4.only HO3.out (Nat.le_refl _))
            clear h4 hB4 q0 q1
            go_wp2
            go_roundw
            case rel =>
              refine ⟨j + 1, by omega, by go_num, ?_, ?_, HN4.out, HO4.out⟩
              · rw [htk.out, chgL_snoc, HL.out, He.out]; simp
              · rw [htk.out, chgL_snoc, HL.out, He.out]
                have := H4.out
                simp only [Option.toList_some, List.flatten_append, List.flatten_cons, List.flatten_nil, List.append_nil]
                rw [← List.append_assoc]
                exact this
            case measure => simp [intOf]; omega
          | false =>
            have He : Hid (chgE G F n = some (leB 1 0 ++ (leB 1 n.length ++ n))) := Lib.hid (by unfold chgE; rw [Hx.out, Hy.out, if_neg (by intro e; injection e with e1 e2; exact hb2 e2), His.out]; rfl)
            go_wp2_with fail
            refine (layNumber_any _ w2.heap.size _ 0 1 _ (rowOnly Hown.out hOa.out) (Nat.le_trans hszr hOa.out.size) (by omega) (by omega) (by omega)).mono ?_
            rintro e w3 ⟨v3, rfl, h3, hB3⟩
            have H3 := Lib.hid h3
            have HN3 := Lib.hid (hB3.row (HNj.out.only hOa.out) (by decide))
            have HO3 := Lib.hid (hB3.only (HO.out.plus hOa.out) (Nat.le_refl _))
            have hs3 : w2.heap.size ≤ w3.heap.size := HO3.out.size
            clear h3 hB3
            go_wp2_with fail
            refine (layText_any _ w2.heap.size _ n 1 _ H3.out hs3 (by rw [List.length_append, length_leB]; omega) (by omega) (by omega)).mono ?_
            rintro e w4 ⟨v4, rfl, h4, hB4⟩
            have H4 := Lib.hid h4
            have HN4 := Lib.hid (hB4.row HN3.out (by decide))
            have HO4 := Lib.hid (hB4.only HO3.out (Nat.le_refl _))
            clear h4 hB4
            go_wp2
            go_roundw
            case rel =>
              refine ⟨j + 1, by omega, by go_num, ?_, ?_, HN4.out, HO4.out⟩
              · rw [htk.out, chgL_snoc, HL.out, He.out]; simp
              · rw [htk.out, chgL_snoc, HL.out, He.out]
                have := H4.out
                simp only [Option.toList_some, List.flatten_append, List.flatten_cons, List.flatten_nil, List.append_nil]
                rw [← List.append_assoc, ← List.append_assoc]
                exact this
            case measure => simp [intOf]; omega
      · cases is with
        | true =>
          obtain ⟨hn1, hn2, hn3⟩ := hsome.out His.out
          rw [Hx.out] at hn2 hn3
          simp only at hn2 hn3
          have hxn : xn.length ≤ 255 := by rw [hn3]; exact hn1
          clear hn3
          have He : Hid (chgE G F n = some (leB 1 1 ++ fileB (xn, xt))) := Lib.hid (by unfold chgE; rw [Hx.out, Hy.out, if_neg (by intro e; injection e with e1 e2; exact hb1 e1), His.out]; rfl)
          go_wp2_with fail
          refine (layNumber_any _ w2.heap.size _ 1 1 _ (rowOnly Hown.out hOa.out) (Nat.le_trans hszr hOa.out.size) (by omega) (by omega) (by omega)).mono ?_
          rintro e w3 ⟨v3, rfl, h3, hB3⟩
          have hb3 := hB3.blk (IsBlk.made wr _) (by decide)
          have q0 : w3.cell? ⟨wr.heap.size, 0, none⟩ = some (.string ⟨xn.toArray⟩) := hb3.cell 0
          have q1 : w3.cell? ⟨wr.heap.size, 1, none⟩ = some (.string ⟨xt.toArray⟩) := hb3.cell 1
          have H3 := Lib.hid h3
          have HN3 := Lib.hid (hB3.row (HNj.out.only hOa.out) (by decide))
          have HO3 := Lib.hid (hB3.only (HO.out.plus hOa.out) (Nat.le_refl _))
          have hs3 : w2.heap.size ≤ w3.heap.size := HO3.out.size
          clear h3 hB3 hb3
          go_wp2_with fail
          refine (layFile_any _ w2.heap.size _ (xn, xt) _ H3.out hs3 (by rw [List.length_append, length_leB]; omega) (by simp only; omega) (by simp only; omega)).mono ?_
          rintro e w4 ⟨v4, rfl, h4, hB4⟩
          have H4 := Lib.hid h4
          have HN4 := Lib.hid (hB4.row HN3.out (by decide))
          have HO4 := Lib.hid (hB4.only HO3.out (Nat.le_refl _))
          clear h4 hB4 q0 q1
          go_wp2
          go_roundw
          case rel =>
            refine ⟨j + 1, by omega, by go_num, ?_, ?_, HN4.out, HO4.out⟩
            · rw [htk.out, chgL_snoc, HL.out, He.out]; simp
            · rw [htk.out, chgL_snoc, HL.out, He.out]
              have := H4.out
              simp only [Option.toList_some, List.flatten_append, List.flatten_cons, List.flatten_nil, List.append_nil]
              rw [← List.append_assoc]
              exact this
          case measure => simp [intOf]; omega
        | false =>
          have He : Hid (chgE G F n = some (leB 1 0 ++ (leB 1 n.length ++ n))) := Lib.hid (by unfold chgE; rw [Hx.out, Hy.out, if_neg (by intro e; injection e with e1 e2; exact hb1 e1), His.out]; rfl)
          go_wp2_with fail
          refine (layNumber_any _ w2.heap.size _ 0 1 _ (rowOnly Hown.out hOa.out) (Nat.le_trans hszr hOa.out.size) (by omega) (by omega) (by omega)).mono ?_
          rintro e w3 ⟨v3, rfl, h3, hB3⟩
          have H3 := Lib.hid h3
          have HN3 := Lib.hid (hB3.row (HNj.out.only hOa.out) (by decide))
          have HO3 := Lib.hid (hB3.only (HO.out.plus hOa.out) (Nat.le_refl _))
          have hs3 : w2.heap.size ≤ w3.heap.size := HO3.out.size
          clear h3 hB3
          go_wp2_with fail
          refine (layText_any _ w2.heap.size _ n 1 _ H3.out hs3 (by rw [List.length_append, length_leB]; omega) (by omega) (by omega)).mono ?_
          rintro e w4 ⟨v4, rfl, h4, hB4⟩
          have H4 := Lib.hid h4
          have HN4 := Lib.hid (hB4.row HN3.out (by decide))
          have HO4 := Lib.hid (hB4.only HO3.out (Nat.le_refl _))
          clear h4 hB4
          go_wp2
          go_roundw
          case rel =>
            refine ⟨j + 1, by omega, by go_num, ?_, ?_, HN4.out, HO4.out⟩
            · rw [htk.out, chgL_snoc, HL.out, He.out]; simp
            · rw [htk.out, chgL_snoc, HL.out, He.out]
              have := H4.out
              simp only [Option.toList_some, List.flatten_append, List.flatten_cons, List.flatten_nil, List.append_nil]
              rw [← List.append_assoc, ← List.append_assoc]
              exact this
          case measure => simp [intOf]; omega
    · have hge : ¬ (j : Int) < (ns.length : Int) := by omega
      have hjF : j = ns.length := by omega
      subst hjF
      have etk : ns.take ns.length = ns := List.take_length
      rw [etk] at Hown ⊢
      clear etk
      have hCL : (chgL G F ns).length ≤ 255 := by
        have h1 : (chgL G F ns).length ≤ ns.length := List.length_filterMap_le _ _
        omega
      have hCF : (chgL G F ns).flatten.length ≤ 840000 := by
        have := chg_flat (G := G) HM.out ns Hns.out
        have h2 : 3290 * ns.length ≤ 3290 * 255 := Nat.mul_le_mul_left _ (by omega)
        omega
      have hun : Hid (changeB G F ns = leB 1 (chgL G F ns).length ++ (chgL G F ns).flatten) := Lib.hid rfl
      generalize chgL G F ns = CL at *
      generalize CL.flatten = FL at *
      have hszr := HO.out.size
      go_wp2_with fail
      refine (layNumber_any _ wr.heap.size _ CL.length 1 [] (OwnB.nil _ _) (Nat.le_refl _) (by simp) (by omega) (by omega)).mono ?_
      rintro e w3 ⟨v3, rfl, h3, hB3⟩
      rw [List.nil_append] at h3
      have hO3 := hB3.only (Only.refl [] wr) (Nat.le_refl _)
      have H3 := Lib.hid h3
      obtain ⟨a6, c6, rfl, hs6, hn6, -⟩ := (OwnB.shape (rowOnly Hown.out hO3))
      have Hs6 := Lib.hid hs6
      have HO3 := Lib.hid hO3
      have hs3 := hO3.size
      clear h3 hB3 hO3 hs6 hn6
      have hl3 : (leB 1 CL.length).length + FL.length ≤ 100000000 := by rw [length_leB]; omega
      go_wp2_with (at_builtin; refine wpList_append_bo rfl _ _ rfl wr.heap.size _ _ rfl H3.out a6 FL.length c6 FL rfl Hs6.out hl3 hs3 ?_; intro v' w' h2 hB)
      go_ret
      refine ⟨v', rfl, ?_, ?_⟩
      · rw [HnE.out, hun.out]
        exact ownsRow_base_a h2 (Nat.le_trans HO2.out.size HO.out.size)
      · exact HO2.out.plus (HO.out.plus (hB.only HO3.out (Nat.le_refl _)))

end Go.Proofs.YtfampoblcielpaaGreat
