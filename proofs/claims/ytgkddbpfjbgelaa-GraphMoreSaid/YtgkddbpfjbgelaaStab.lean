/-
  A region that draws its order, by what each operation leaves: for each operation a word on its value and the world that later operations do not undo.
-/
import Derived.StillTail
import Derived.WalkKit
namespace Go.Proofs.Ytgkddbpfjbgelaa
set_option linter.unusedVariables false
set_option maxRecDepth 100000

section
variable {P : Program}

/-- Does operation j wait for k? -/
def dep (ops : Array Oper) (j k : Nat) : Bool := Region.waitsFor .any ops j k

/-- What one operation must do, whatever others have been done ahead of it. L: what has been done; N: whose word is still wanted. -/
def StepOK (P : Program) (ops : Array Oper) (Q : Exit → Act → World → Prop) (n : Nat) (keep : Nat → Bool) (R1 : Nat → World → World → Prop) (R : World → World → Prop) (Rk : Nat → World → World → Prop) (φ : Nat → Value → World → Prop) (a0 : Act) (w0 : World) (i : Nat) (o : Oper) : Prop :=
  ∀ (a : Act) (w : World) (L N : Nat → Prop), R w0 w →
    (∀ t : Tmp, ((ops.toList.take n).all fun o => o.dst != some t) = true → a.tmps[t]? = a0.tmps[t]?) →
    (∀ j o' d, L j → ops[j]? = some o' → o'.dst = some d → ∃ v, a.tmps[d]? = some v ∧ (N j → φ j v w)) →
    ((∀ j k, L j → dep ops j k = true → L k) ∧ ¬ L i ∧ (∀ t : Tmp, (∀ j o', L j → ops[j]? = some o' → o'.dst ≠ some t) → a.tmps[t]? = a0.tmps[t]?) ∧ a.defers = a0.defers ∧ ∀ k, ¬ L k → R1 k w0 w) → (∀ j, keep j = true → N j) → (∀ k, dep ops i k = true → L k ∧ N k) →
    (∀ K : Act → World → Prop, (∀ v w', Rk i w w' → φ i v w' → K (a.put o.dst v) w') → if Region.wanted o (yielded ops a.tmps) then o.wp P a w K Q else K (a.put o.dst undef) w)

def StepsOK (P : Program) (ops : Array Oper) (Q : Exit → Act → World → Prop) (n : Nat) (keep : Nat → Bool) (R1 : Nat → World → World → Prop) (R : World → World → Prop) (Rk : Nat → World → World → Prop) (φ : Nat → Value → World → Prop) (a0 : Act) (w0 : World) : Nat → List Oper → Prop
  | _, [] => True
  | i, o :: r => StepOK P ops Q n keep R1 R Rk φ a0 w0 i o ∧ StepsOK P ops Q n keep R1 R Rk φ a0 w0 (i + 1) r

theorem StepsOK.get {ops : Array Oper} {Q : Exit → Act → World → Prop} {n : Nat} {keep : Nat → Bool} {R1 : Nat → World → World → Prop} {R : World → World → Prop} {Rk : Nat → World → World → Prop} {φ : Nat → Value → World → Prop} {a0 : Act} {w0 : World} :
    ∀ (l : List Oper) (k i : Nat) (o : Oper), StepsOK P ops Q n keep R1 R Rk φ a0 w0 k l → l[i]? = some o → StepOK P ops Q n keep R1 R Rk φ a0 w0 (k + i) o
  | [], _, i, o, _, h => by simp at h
  | x :: r, k, 0, o, hs, h => by simp at h; subst h; exact hs.1
  | x :: r, k, i + 1, o, hs, h => by
    have := StepsOK.get r (k + 1) i o hs.2 (by simpa using h)
    rwa [show k + 1 + i = k + (i + 1) by omega] at this

theorem StepsOK.cons {ops : Array Oper} {Q : Exit → Act → World → Prop} {n : Nat} {keep : Nat → Bool} {R1 : Nat → World → World → Prop} {R : World → World → Prop} {Rk : Nat → World → World → Prop} {φ : Nat → Value → World → Prop} {a0 : Act} {w0 : World} {i : Nat} {o : Oper} {r : List Oper}
    (h : StepOK P ops Q n keep R1 R Rk φ a0 w0 i o) (hr : StepsOK P ops Q n keep R1 R Rk φ a0 w0 (i + 1) r) : StepsOK P ops Q n keep R1 R Rk φ a0 w0 i (o :: r) := ⟨h, hr⟩
theorem StepsOK.nil {ops : Array Oper} {Q : Exit → Act → World → Prop} {n : Nat} {keep : Nat → Bool} {R1 : Nat → World → World → Prop} {R : World → World → Prop} {Rk : Nat → World → World → Prop} {φ : Nat → Value → World → Prop} {a0 : Act} {w0 : World} {i : Nat} : StepsOK P ops Q n keep R1 R Rk φ a0 w0 i [] := trivial

/-- What holds while the head of the region is under way. -/
structure StabInv (ops : Array Oper) (n : Nat) (keep : Nat → Bool) (R1 : Nat → World → World → Prop) (R : World → World → Prop) (φ : Nat → Value → World → Prop) (a0 : Act) (w0 : World) (listed : Array Bool) (a : Act) (w : World) : Prop where
  head : HeadInv .any ops n listed
  rel : R w0 w
  pre : ∀ k, listed.getD k false = false → R1 k w0 w
  size : a.tmps.size = a0.tmps.size
  defers : a.defers = a0.defers
  old : ∀ t : Tmp, ((ops.toList.take n).all fun o => o.dst != some t) = true → a.tmps[t]? = a0.tmps[t]?
  yet : ∀ t : Tmp, (∀ (j : Nat) (o' : Oper), listed.getD j false = true → ops[j]? = some o' → o'.dst ≠ some t) → a.tmps[t]? = a0.tmps[t]?
  done : ∀ i o d, listed.getD i false = true → ops[i]? = some o → o.dst = some d → ∃ v, a.tmps[d]? = some v ∧ ((keep i = true ∨ ∃ j, j < n ∧ listed.getD j true = false ∧ dep ops j i = true) → φ i v w)

/-- No two of the first n operations have one slot, and the frame has all slots. -/
def dstsB (ops : Array Oper) (n size : Nat) : Bool :=
  let ds := (ops.toList.take n).filterMap (·.dst)
  decide ds.Nodup && ds.all (fun d => decide (d < size))

theorem nodup_dst : ∀ (l : List Oper), (l.filterMap (·.dst)).Nodup → ∀ (i j : Nat) (o o' : Oper) (d : Tmp), l[i]? = some o → l[j]? = some o' → o.dst = some d → o'.dst = some d → i = j := by
  intro l
  induction l with
  | nil => intro _ i j o o' d h; simp at h
  | cons x r ih =>
    intro hnd i j o o' d hi hj ho ho'
    have hin : ∀ (k : Nat) (y : Oper), r[k]? = some y → y.dst = some d → d ∈ r.filterMap (·.dst) := fun k y hk hy => List.mem_filterMap.2 ⟨y, List.mem_of_getElem? hk, hy⟩
    have hr : (r.filterMap (·.dst)).Nodup := by
      cases hx : x.dst with
      | none => rw [List.filterMap_cons_none hx] at hnd; exact hnd
      | some e => rw [List.filterMap_cons_some hx] at hnd; exact (List.nodup_cons.1 hnd).2
    have hx : x.dst = some d → d ∉ r.filterMap (·.dst) := fun hx => by
      rw [List.filterMap_cons_some hx] at hnd; exact (List.nodup_cons.1 hnd).1
    cases i with
    | zero =>
      cases j with
      | zero => rfl
      | succ j =>
        simp at hi hj; subst hi
        exact absurd (hin j o' hj ho') (hx ho)
    | succ i =>
      cases j with
      | zero =>
        simp at hi hj; subst hj
        exact absurd (hin i o hi ho) (hx ho')
      | succ j =>
        simp at hi hj
        rw [ih hr i j o o' d hi hj ho ho']

theorem StabInv.step {ops : Array Oper} {Q : Exit → Act → World → Prop} {n : Nat} {keep : Nat → Bool} {R1 : Nat → World → World → Prop} {R : World → World → Prop} {Rk : Nat → World → World → Prop} {φ : Nat → Value → World → Prop} {a0 a : Act} {w0 w : World} {listed : Array Bool}
    (htr : ∀ k u v, R w0 u → Rk k u v → R w0 v) (htr1 : ∀ k0 k u v, k ≠ k0 → R1 k0 w0 u → Rk k u v → R1 k0 w0 v) (hst : ∀ k i v w w', k < n → i < n → i ≠ k → (keep i = true ∨ ∃ j, j < n ∧ j ≠ k ∧ dep ops j i = true) → φ i v w → Rk k w w' → φ i v w') (hB : dstsB ops n a0.tmps.size = true)
    (hs : StepsOK P ops Q n keep R1 R Rk φ a0 w0 0 (ops.toList.take n)) (inv : StabInv ops n keep R1 R φ a0 w0 listed a w) {i : Nat} (hi : i ∈ Region.ready .any ops listed) (hin : i < n) :
    wpOp P ops Q i (StabInv ops n keep R1 R φ a0 w0 (listed.setIfInBounds i true)) a w := by
  obtain ⟨hun, o, ho, hall⟩ := mem_ready.1 hi
  simp only [dstsB, Bool.and_eq_true, decide_eq_true_eq] at hB
  obtain ⟨hnd, hbd⟩ := hB
  have hol : (ops.toList.take n)[i]? = some o := by rw [List.getElem?_take_of_lt hin]; simpa using ho
  have hlt : i < ops.size := (Array.getElem?_eq_some_iff.1 ho).1
  have hstep := StepsOK.get _ 0 i o hs hol
  rw [Nat.zero_add] at hstep
  have := hstep a w (fun j => listed.getD j false = true) (fun i => keep i = true ∨ ∃ j, j < n ∧ listed.getD j true = false ∧ dep ops j i = true) inv.rel inv.old (fun j o' d hj ho' hd => inv.done j o' d hj ho' hd)
    ⟨(fun j k hj hd => by
      obtain ⟨oj, hoj, e, he, hb, hon⟩ := Region.waitsFor_spec hd
      have := inv.head.closed j oj hoj hj e he hb
      rwa [hon] at this), (fun hli => by rw [getD_both hun] at hli; cases hli), inv.yet, inv.defers, fun k hn => inv.pre k (by simpa using hn)⟩
    (fun _ h => .inl h)
    (fun k hd => by
      refine ⟨?_, .inr ⟨i, hin, hun, hd⟩⟩
      obtain ⟨oj, hoj, e, he, hb, hon⟩ := Region.waitsFor_spec hd
      have e1 : oj = o := Option.some.inj (hoj.symm.trans ho)
      subst e1
      have := hall e he hb
      rwa [hon] at this)
    (StabInv ops n keep R1 R φ a0 w0 (listed.setIfInBounds i true))
    (fun v w' hR hφ => by
      have hdn : ∀ d, o.dst = some d → d < a0.tmps.size := fun d hd => by
        have := List.all_eq_true.1 hbd d (List.mem_filterMap.2 ⟨o, List.mem_of_getElem? hol, hd⟩)
        simpa using this
      refine ⟨inv.head.set hi hin, htr i _ _ inv.rel hR, fun k0 hk0 => ?_, ?_, ?_, fun t ht => ?_, fun t ht => ?_, fun j oj d hj hoj hd => ?_⟩
      · have hlt' : i < listed.size := by rw [inv.head.size]; exact hlt
        by_cases hik : i = k0
        · subst hik; simp [hlt'] at hk0
        · rw [getD_set_ne false hik] at hk0
          exact htr1 k0 i _ _ hik (inv.pre k0 hk0) hR
      · cases hd : o.dst <;> simp [Act.put, inv.size]
      · cases hd : o.dst <;> simp [Act.put, inv.defers]
      · cases hd : o.dst with
        | none => exact inv.old t ht
        | some d =>
          have hne : d ≠ t := fun e => by
            have := List.all_eq_true.1 ht o (List.mem_of_getElem? hol)
            simp [hd, e] at this
          simp only [Act.put]
          rw [Array.getElem?_setIfInBounds_ne hne]
          exact inv.old t ht
      · have hlt' : i < listed.size := by rw [inv.head.size]; exact hlt
        have hi0 : o.dst ≠ some t := ht i o (by simp [hlt']) ho
        have hrec : a.tmps[t]? = a0.tmps[t]? := inv.yet t (fun j o' hj ho' => by
          by_cases hji : i = j
          · subst hji
            exact ht i o' (by simp [hlt']) ho'
          · exact ht j o' (by rw [getD_set_ne false hji]; exact hj) ho')
        cases hd : o.dst with
        | none => exact hrec
        | some d =>
          have hne : d ≠ t := fun e => hi0 (by rw [hd, e])
          simp only [Act.put]
          rw [Array.getElem?_setIfInBounds_ne hne]
          exact hrec
      · by_cases hji : i = j
        · subst hji
          have e1 : oj = o := Option.some.inj (hoj.symm.trans ho)
          subst e1
          refine ⟨v, ?_, fun _ => hφ⟩
          rw [hd]
          simp only [Act.put]
          have := hdn d hd
          rw [Array.getElem?_setIfInBounds_self_of_lt (by rw [inv.size]; exact this)]
        · rw [getD_set_ne false hji] at hj
          obtain ⟨u, hu, hφu⟩ := inv.done j oj d hj hoj hd
          have hjn : j < n := by
            rcases Nat.lt_or_ge j n with h | h
            · exact h
            · have h1 := inv.head.tail j h (Array.getElem?_eq_some_iff.1 hoj).1
              rw [getD_both h1] at hj; cases hj
          refine ⟨u, ?_, fun hneed => ?_⟩
          rotate_left
          · rcases hneed with hk | ⟨x, hxn, hx, hxd⟩
            · exact hst i j _ _ _ hin hjn (Ne.symm hji) (.inl hk) (hφu (.inl hk)) hR
            · have hxi : x ≠ i := fun e => by
                subst e
                have : x < listed.size := by rw [inv.head.size]; exact hlt
                simp [this] at hx
              rw [getD_set_ne true (Ne.symm hxi)] at hx
              exact hst i j _ _ _ hin hjn (Ne.symm hji) (.inr ⟨x, hxn, hxi, hxd⟩) (hφu (.inr ⟨x, hxn, hx, hxd⟩)) hR
          cases hd' : o.dst with
          | none => exact hu
          | some d' =>
            have hojl : (ops.toList.take n)[j]? = some oj := by rw [List.getElem?_take_of_lt hjn]; simpa using hoj
            have hne : d' ≠ d := fun e => by
              subst e
              exact hji (nodup_dst _ hnd i j o oj d' hol hojl hd' hd)
            simp only [Act.put]
            rw [Array.getElem?_setIfInBounds_ne hne]
            exact hu)
  unfold wpOp
  simp only [ho]
  split at this
  · rename_i hw; simp only [hw, if_true]; exact .inl this
  · rename_i hw; simp only [hw]; exact this

/-- The slots of the first operations, filled. -/
def fillAct : Act → List Oper → (Nat → Value) → Nat → Act
  | a, [], _, _ => a
  | a, o :: r, us, i => fillAct (a.put o.dst (us i)) r us (i + 1)

theorem fillAct_size : ∀ (l : List Oper) (a : Act) (us : Nat → Value) (i : Nat), (fillAct a l us i).tmps.size = a.tmps.size ∧ (fillAct a l us i).defers = a.defers
  | [], a, us, i => ⟨rfl, rfl⟩
  | o :: r, a, us, i => by
    obtain ⟨h1, h2⟩ := fillAct_size r (a.put o.dst (us i)) us (i + 1)
    rw [fillAct, h1, h2]
    cases o.dst <;> simp [Act.put]
theorem fillAct_old : ∀ (l : List Oper) (a : Act) (us : Nat → Value) (i t : Nat), (l.all fun o => o.dst != some t) = true → (fillAct a l us i).tmps[t]? = a.tmps[t]?
  | [], a, us, i, t, _ => rfl
  | o :: r, a, us, i, t, h => by
    simp only [List.all_cons, Bool.and_eq_true] at h
    rw [fillAct, fillAct_old r _ us (i + 1) t h.2]
    cases hd : o.dst with
    | none => rfl
    | some d =>
      have hne : d ≠ t := fun e => by simp [hd, e] at h
      simp only [Act.put]
      exact Array.getElem?_setIfInBounds_ne hne
theorem fillAct_at : ∀ (l : List Oper) (a : Act) (us : Nat → Value) (k i : Nat) (o : Oper) (d : Nat), (l.filterMap (·.dst)).Nodup → l[i]? = some o → o.dst = some d → d < a.tmps.size → (fillAct a l us k).tmps[d]? = some (us (k + i))
  | [], a, us, k, i, o, d, _, h, _, _ => by simp at h
  | x :: r, a, us, k, 0, o, d, hnd, h, hd, hlt => by
    simp at h; subst h
    rw [List.filterMap_cons_some hd] at hnd
    have hno : (r.all fun o => o.dst != some d) = true := by
      rw [List.all_eq_true]
      intro y hy
      have := (List.nodup_cons.1 hnd).1
      simp only [bne_iff_ne, ne_eq]
      intro e
      exact this (List.mem_filterMap.2 ⟨y, hy, e⟩)
    rw [fillAct, fillAct_old r _ us (k + 1) d hno, hd]
    simp only [Act.put]
    rw [Array.getElem?_setIfInBounds_self_of_lt hlt]
    simp
  | x :: r, a, us, k, i + 1, o, d, hnd, h, hd, hlt => by
    have hr : (r.filterMap (·.dst)).Nodup := by
      cases hx : x.dst with
      | none => rw [List.filterMap_cons_none hx] at hnd; exact hnd
      | some e => rw [List.filterMap_cons_some hx] at hnd; exact (List.nodup_cons.1 hnd).2
    rw [fillAct, fillAct_at r _ us (k + 1) i o d hr (by simpa using h) hd (by cases x.dst <;> simp [Act.put, hlt])]
    rw [show k + 1 + i = k + (i + 1) by omega]

/-- All of the head is done: the frame is as it was, but for its slots. -/
theorem StabInv.fill {ops : Array Oper} {n : Nat} {keep : Nat → Bool} {R1 : Nat → World → World → Prop} {R : World → World → Prop} {φ : Nat → Value → World → Prop} {a0 a : Act} {w0 w : World} {listed : Array Bool}
    (hB : dstsB ops n a0.tmps.size = true) (inv : StabInv ops n keep R1 R φ a0 w0 listed a w) (hn : n ≤ ops.size) (hall : ∀ i, i < n → listed.getD i false = true) :
    ∃ us : Nat → Value, a = fillAct a0 (ops.toList.take n) us 0 ∧ ∀ i o d, i < n → ops[i]? = some o → o.dst = some d → keep i = true → φ i (us i) w := by
  simp only [dstsB, Bool.and_eq_true, decide_eq_true_eq] at hB
  obtain ⟨hnd, hbd⟩ := hB
  let us : Nat → Value := fun i => match (ops[i]?).bind (·.dst) with
    | some d => (a.tmps[d]?).getD undef
    | none => undef
  obtain ⟨hsz, hdf⟩ := fillAct_size (ops.toList.take n) a0 us 0
  have husd : ∀ i o d, i < n → ops[i]? = some o → o.dst = some d → a.tmps[d]? = some (us i) ∧ (keep i = true → φ i (us i) w) := fun i o d hi ho hd => by
    obtain ⟨v, hv, hφ⟩ := inv.done i o d (hall i hi) ho hd
    have : us i = v := by simp only [us, ho, Option.bind_some, hd, hv, Option.getD_some]
    rw [this]
    exact ⟨hv, fun hk => hφ (.inl hk)⟩
  refine ⟨us, ?_, fun i o d hi ho hd hk => (husd i o d hi ho hd).2 hk⟩
  have ht : a.tmps = (fillAct a0 (ops.toList.take n) us 0).tmps := by
    apply Array.ext_getElem?
    intro t
    cases hc : ((ops.toList.take n).all fun o => o.dst != some t) with
    | true => rw [fillAct_old _ _ _ _ _ hc]; exact inv.old t hc
    | false =>
      obtain ⟨o, hom, hot⟩ := List.all_eq_false.1 hc
      have hot : o.dst = some t := by simpa using hot
      obtain ⟨i, hi⟩ := List.getElem?_of_mem hom
      have hin : i < n := by
        have := (List.getElem?_eq_some_iff.1 hi).1
        simp at this; omega
      have ho : ops[i]? = some o := by rw [List.getElem?_take_of_lt hin] at hi; simpa using hi
      have hlt : t < a0.tmps.size := by
        have := List.all_eq_true.1 hbd t (List.mem_filterMap.2 ⟨o, hom, hot⟩)
        simpa using this
      rw [fillAct_at _ _ _ 0 i o t hnd hi hot hlt, Nat.zero_add]
      exact (husd i o t hin ho hot).1
  cases a
  cases h : fillAct a0 (ops.toList.take n) us 0
  simp only [h] at ht hdf
  rw [ht, hdf]
  have := inv.defers
  simp only at this
  rw [this]

theorem stab_any {ops : Array Oper} {Q : Exit → Act → World → Prop} {n g : Nat} {keep : Nat → Bool} {R1 : Nat → World → World → Prop} {R : World → World → Prop} {Rk : Nat → World → World → Prop} {φ : Nat → Value → World → Prop} {a0 : Act} {w0 : World}
    (htr : ∀ k u v, R w0 u → Rk k u v → R w0 v) (htr1 : ∀ k0 k u v, k ≠ k0 → R1 k0 w0 u → Rk k u v → R1 k0 w0 v) (hst : ∀ k i v w w', k < n → i < n → i ≠ k → (keep i = true ∨ ∃ j, j < n ∧ j ≠ k ∧ dep ops j i = true) → φ i v w → Rk k w w' → φ i v w') (hB : dstsB ops n a0.tmps.size = true) (hn : n ≤ ops.size)
    (hs : StepsOK P ops Q n keep R1 R Rk φ a0 w0 0 (ops.toList.take n))
    (hhead : ∀ listed, HeadInv .any ops n listed → ∀ i, i < n → listed.getD i true = false → (∃ k, k < n ∧ k ∈ Region.ready .any ops listed) ∧ ∀ t, n ≤ t → t ∉ Region.ready .any ops listed)
    (hend : ∀ listed a w, StabInv ops n keep R1 R φ a0 w0 listed a w → (∀ i, i < n → listed.getD i false = true) → wpAny P .any ops Q g listed a w) :
    ∀ (f : Nat) (listed : Array Bool) (a : Act) (w : World), ((List.range n).filter fun i => !listed.getD i true).length = f → StabInv ops n keep R1 R φ a0 w0 listed a w → wpAny P .any ops Q (f + g) listed a w := by
  intro f
  induction f with
  | zero =>
    intro listed a w hf inv
    rw [Nat.zero_add]
    refine hend listed a w inv fun i hi => ?_
    have h0 := List.filter_eq_nil_iff.1 (List.length_eq_zero_iff.1 hf) i (List.mem_range.2 hi)
    have hlt : i < listed.size := by rw [inv.head.size]; omega
    simp [hlt] at h0 ⊢
    exact h0
  | succ f ih =>
    intro listed a w hf inv
    have hex : ∃ i, i < n ∧ listed.getD i true = false := by
      cases hl : (List.range n).filter fun i => !listed.getD i true with
      | nil => rw [hl] at hf; simp at hf
      | cons x r =>
        have hx : x ∈ (List.range n).filter fun i => !listed.getD i true := by rw [hl]; simp
        obtain ⟨h1, h2⟩ := List.mem_filter.1 hx
        exact ⟨x, List.mem_range.1 h1, by simpa using h2⟩
    obtain ⟨i0, hi0, hun0⟩ := hex
    obtain ⟨⟨k, hk, hkr⟩, hno⟩ := hhead listed inv.head i0 hi0 hun0
    rw [show f + 1 + g = (f + g) + 1 by omega]
    refine ⟨fun h => (by rw [h] at hkr; cases hkr), fun i hi => ?_⟩
    have hin : i < n := by
      rcases Nat.lt_or_ge i n with h | h
      · exact h
      · exact absurd hi (hno i h)
    refine wpOp_mono (fun a' w' inv' => ih _ a' w' ?_ inv') (inv.step htr htr1 hst hB hs hi hin)
    have hun := (mem_ready.1 hi).1
    have hlt : i < listed.size := by rw [inv.head.size]; omega
    have hcount : ∀ (l : List Nat), l.Nodup → i ∈ l → (l.filter fun j => !listed.getD j true).length = (l.filter fun j => !(listed.setIfInBounds i true).getD j true).length + 1 := by
      intro l
      induction l with
      | nil => intro _ h; cases h
      | cons x r ihl =>
        intro hnd hm
        obtain ⟨hx, hr⟩ := List.nodup_cons.1 hnd
        by_cases hxi : x = i
        · subst hxi
          have hsame : (r.filter fun j => !listed.getD j true) = (r.filter fun j => !(listed.setIfInBounds x true).getD j true) := by
            refine List.filter_congr fun j hj => ?_
            have : x ≠ j := fun e => hx (e ▸ hj)
            rw [getD_set_ne true this]
          rw [List.filter_cons_of_pos (by simp only [hun]; rfl), List.filter_cons_of_neg (by simp [hlt]), hsame]
          rfl
        · have hm' : i ∈ r := by
            rcases List.mem_cons.1 hm with e | e
            · exact absurd e.symm hxi
            · exact e
          have hg := getD_set_ne (listed := listed) true (i := i) (j := x) (Ne.symm hxi)
          cases hv : listed.getD x true with
          | true => rw [List.filter_cons_of_neg (by rw [hv]; simp), List.filter_cons_of_neg (by rw [hg, hv]; simp)]; exact ihl hr hm'
          | false => rw [List.filter_cons_of_pos (by rw [hv]; rfl), List.filter_cons_of_pos (by rw [hg, hv]; rfl), List.length_cons, List.length_cons, ihl hr hm']
    have := hcount (List.range n) List.nodup_range (List.mem_range.2 hin)
    omega

/-- Each operation waits for operations ahead of it alone. -/
def backB (ops : Array Oper) : Bool := (List.range ops.size).all fun j => ((ops[j]?).map fun o => o.after.all fun e => !Region.binds .any e || decide (e.on < j)).getD true

theorem back_ready {ops : Array Oper} {n : Nat} (hb : backB ops = true) (hn : n ≤ ops.size) {listed : Array Bool} (inv : HeadInv .any ops n listed) :
    ∀ (i : Nat), i < n → listed.getD i true = false → ∃ k, k < n ∧ k ∈ Region.ready .any ops listed := by
  intro i
  induction i using Nat.strongRecOn with
  | _ i ih =>
    intro hi hun
    by_cases h : ∃ k, k < i ∧ listed.getD k true = false
    · obtain ⟨k, hk, hku⟩ := h
      exact ih k hk (by omega) hku
    · refine ⟨i, hi, mem_ready.2 ⟨hun, ops[i], by simp [show i < ops.size by omega], fun e he hbi => ?_⟩⟩
      have h1 := List.all_eq_true.1 hb i (List.mem_range.2 (by omega))
      rw [Array.getElem?_eq_getElem (show i < ops.size by omega)] at h1
      simp only [Option.map_some, Option.getD_some, Array.all_eq_true_iff_forall_mem, Bool.or_eq_true, decide_eq_true_eq] at h1
      have h2 : e.on < i := by
        rcases h1 e he with h3 | h3
        · rw [hbi] at h3; cases h3
        · exact h3
      have hlt : e.on < listed.size := by rw [inv.size]; omega
      have h3 : ¬ listed.getD e.on true = false := fun h4 => h ⟨e.on, h2, h4⟩
      simp [hlt] at h3 ⊢
      exact h3

/-- The region's head is drawn, its tail is forced. -/
def stabB (ops : Array Oper) (n size : Nat) : Bool :=
  dstsB ops n size && backB ops && (decide (n = ops.size) || (decide (n < ops.size) && Region.sinkB .any ops n && Region.chainB .any ops n && Region.seqB .any ops (ops.size - n) n ((Array.replicate n true) ++ (Array.replicate (ops.size - n) false))))

theorem wp_region_stabP {id : Nat} {Q : Exit → Act → World → Prop} {a0 : Act} {w : World} {l : List Oper} (n : Nat) (hm : P.follows .mixedOrders = true) (hB : stabB l.toArray n a0.tmps.size = true)
    (keep : Nat → Bool) (R1 : Nat → World → World → Prop) (R : World → World → Prop) (Rk : Nat → World → World → Prop) (hrefl : R w.drew w.drew) (hrefl1 : ∀ k, R1 k w.drew w.drew) (htr : ∀ k u v, R w.drew u → Rk k u v → R w.drew v) (htr1 : ∀ k0 k u v, k ≠ k0 → R1 k0 w.drew u → Rk k u v → R1 k0 w.drew v) (φ : Nat → Value → World → Prop)
    (hst : ∀ k i v w w', k < n → i < n → i ≠ k → (keep i = true ∨ ∃ j, j < n ∧ j ≠ k ∧ dep l.toArray j i = true) → φ i v w → Rk k w w' → φ i v w')
    (hs : StepsOK P l.toArray Q n keep R1 R Rk φ a0 w.drew 0 (l.take n))
    (hrest : ∀ us w', R w.drew w' → (∀ i o d, i < n → l[i]? = some o → o.dst = some d → keep i = true → φ i (us i) w') → wpList P l.toArray Q (l.drop n) (fillAct a0 (l.take n) us 0) w') :
    (Code.region id l.toArray true).wp P Q a0 w := by
  simp only [stabB, Bool.and_eq_true, Bool.or_eq_true, decide_eq_true_eq] at hB
  obtain ⟨⟨hd, hb⟩, htail⟩ := hB
  have hn : n ≤ l.toArray.size := by
    rcases htail with h | h
    · omega
    · omega
  refine wp_region_any hm ?_
  have hdl : (l.drop n).length = l.toArray.size - n := by simp
  have inv0 : HeadInv .any l.toArray n (Array.replicate l.toArray.size false) :=
    ⟨by simp, fun j oj _ hl => (by rw [getD_replicate_false] at hl; cases hl), fun t _ ht => getD_in (by simpa using ht) (getD_replicate_false _ _)⟩
  have H := stab_any (P := P) (ops := l.toArray) (Q := Q) (n := n) (g := l.toArray.size - n) (keep := keep) (R1 := R1) (R := R) (Rk := Rk) (φ := φ) (a0 := a0) (w0 := w.drew) htr htr1 hst hd hn (by simpa using hs)
    (fun listed inv i hi hun => ⟨back_ready hb hn inv i hi hun, fun t ht => by
      rcases htail with h | ⟨⟨⟨h, h1⟩, h2⟩, h3⟩
      · intro hr
        obtain ⟨_, o, ho, _⟩ := mem_ready.1 hr
        have := (Array.getElem?_eq_some_iff.1 ho).1
        omega
      · exact tail_waits h1 h2 h inv _ i rfl hi hun t ht⟩)
    (fun listed a w' inv hall => by
      obtain ⟨us, rfl, hus⟩ := inv.fill hd hn hall
      have hW := hrest us w' inv.rel (fun i o d hi ho hd hk => hus i o d hi (by simpa using ho) hd hk)
      have hlisted : listed = (Array.replicate n true) ++ (Array.replicate (l.toArray.size - n) false) := by
        have hsz := inv.head.size
        apply Array.ext_getElem?
        intro t
        rcases Nat.lt_or_ge t n with h | h
        · have h1 := hall t h
          have hlt : t < listed.size := by rw [hsz]; omega
          simp [hlt] at h1
          rw [Array.getElem?_eq_getElem hlt, h1, Array.getElem?_append_left (by simpa using h)]
          simp [h]
        · rcases Nat.lt_or_ge t l.toArray.size with h' | h'
          · have h1 := inv.head.tail t h h'
            have hlt : t < listed.size := by rw [hsz]; omega
            simp [hlt] at h1
            rw [Array.getElem?_eq_getElem hlt, h1, Array.getElem?_append_right (by simpa using h), Array.getElem?_replicate, if_pos (by simp at h' ⊢; omega)]
          · rw [Array.getElem?_eq_none (by rw [hsz]; exact h'), Array.getElem?_eq_none (by simp at h' ⊢; omega)]
      have hseq : Region.seqB .any l.toArray (l.toArray.size - n) n listed = true := by
        rcases htail with h | ⟨_, h3⟩
        · have h0 : l.toArray.size - n = 0 := by omega
          rw [h0]
          simp only [Region.seqB, List.isEmpty_iff]
          cases hr : Region.ready .any l.toArray listed with
          | nil => rfl
          | cons x r =>
            have hx : x ∈ Region.ready .any l.toArray listed := by rw [hr]; simp
            obtain ⟨hun, o, ho, _⟩ := mem_ready.1 hx
            have hxl := (Array.getElem?_eq_some_iff.1 ho).1
            have := hall x (by omega)
            rw [getD_both hun] at this
            cases this
        · rw [hlisted]; exact h3
      have := wpAny_of_seq (P := P) (md := .any) (ops := l.toArray) (Q' := Q) (l.drop n) n listed _ w' (fun j => by simp [List.getElem?_drop]) (by rw [hdl]; exact hseq) hW
      rwa [hdl] at this)
  have hcount : ((List.range n).filter fun i => !(Array.replicate l.toArray.size false).getD i true).length = n := by
    rw [List.filter_eq_self.2 (fun i hi => by
      have := List.mem_range.1 hi
      simp at hn
      simp [show i < l.length by omega]), List.length_range]
  have := H n (Array.replicate l.toArray.size false) a0 _ hcount ⟨inv0, hrefl, fun k _ => hrefl1 k, rfl, rfl, fun _ _ => rfl, fun _ _ => rfl, fun i o d h => by rw [getD_replicate_false] at h; cases h⟩
  rw [show n + (l.toArray.size - n) = l.toArray.size by omega] at this
  exact this

theorem wp_region_stab {id : Nat} {Q : Exit → Act → World → Prop} {a0 : Act} {w : World} {l : List Oper} (n : Nat) (hm : P.follows .mixedOrders = true) (hB : stabB l.toArray n a0.tmps.size = true)
    (keep : Nat → Bool) (R : World → World → Prop) (Rk : Nat → World → World → Prop) (hrefl : R w.drew w.drew) (htr : ∀ k u v, R w.drew u → Rk k u v → R w.drew v) (φ : Nat → Value → World → Prop)
    (hst : ∀ k i v w w', k < n → i < n → i ≠ k → (keep i = true ∨ ∃ j, j < n ∧ j ≠ k ∧ dep l.toArray j i = true) → φ i v w → Rk k w w' → φ i v w')
    (hs : StepsOK P l.toArray Q n keep (fun _ _ _ => True) R Rk φ a0 w.drew 0 (l.take n))
    (hrest : ∀ us w', R w.drew w' → (∀ i o d, i < n → l[i]? = some o → o.dst = some d → keep i = true → φ i (us i) w') → wpList P l.toArray Q (l.drop n) (fillAct a0 (l.take n) us 0) w') :
    (Code.region id l.toArray true).wp P Q a0 w :=
  wp_region_stabP n hm hB keep (fun _ _ _ => True) R Rk hrefl (fun _ => trivial) htr (fun _ _ _ _ _ _ _ => trivial) φ hst hs hrest

/-- A word on a value and a world that the rely does not undo. -/
structure SP (R : World → World → Prop) where
  p : Value → World → Prop
  st : ∀ v w w', p v w → R w w' → p v w'
def SP.is {R : World → World → Prop} (x : Value) : SP R := ⟨fun v _ => v = x, fun _ _ _ h _ => h⟩
def SP.any {R : World → World → Prop} : SP R := ⟨fun _ _ => True, fun _ _ _ h _ => h⟩
def SP.at {R : World → World → Prop} (Φ : List (SP R)) (i : Nat) (v : Value) (w : World) : Prop := match Φ[i]? with
  | some p => p.p v w
  | none => True
theorem SP.at_st {R : World → World → Prop} (Φ : List (SP R)) (i : Nat) (v : Value) (w w' : World) (h : SP.at Φ i v w) (hR : R w w') : SP.at Φ i v w' := by
  unfold SP.at at *
  split
  · rename_i p hp; rw [hp] at h; exact p.st _ _ _ h hR
  · trivial

/-- Each operation leaves what is by the one rely R; all words are kept. -/
theorem wp_region_stabL {id : Nat} {Q : Exit → Act → World → Prop} {a0 : Act} {w : World} {l : List Oper} (n : Nat) (hm : P.follows .mixedOrders = true) (hB : stabB l.toArray n a0.tmps.size = true)
    (R : World → World → Prop) (hrefl : R w.drew w.drew) (htr : ∀ u v x, R u v → R v x → R u x) (Φ : List (SP R))
    (hs : StepsOK P l.toArray Q n (fun _ => true) (fun _ _ _ => True) R (fun _ => R) (SP.at Φ) a0 w.drew 0 (l.take n))
    (hrest : ∀ us w', R w.drew w' → (∀ i o d, i < n → l[i]? = some o → o.dst = some d → SP.at Φ i (us i) w') → wpList P l.toArray Q (l.drop n) (fillAct a0 (l.take n) us 0) w') :
    (Code.region id l.toArray true).wp P Q a0 w :=
  wp_region_stab n hm hB (fun _ => true) R (fun _ => R) hrefl (fun _ u v => htr _ u v) (SP.at Φ) (fun _ i v w w' _ _ _ _ h hR => SP.at_st Φ i v w w' h hR) hs (fun us w' hR h => hrest us w' hR (fun i o d hi ho hd => h i o d hi ho hd rfl))

/-- One operation, k0, does more than the rely lets (it writes into a row of the region's own, say): what others leave must bear that, but for those whose word k0 alone wants. -/
theorem wp_region_stabK {id : Nat} {Q : Exit → Act → World → Prop} {a0 : Act} {w : World} {l : List Oper} (n : Nat) (hm : P.follows .mixedOrders = true) (hB : stabB l.toArray n a0.tmps.size = true)
    (keep : Nat → Bool) (R : World → World → Prop) (S : World → World → Prop) (hrefl : S w.drew w.drew) (htr : ∀ u v x, S u v → R v x → S u x) (k0 : Nat) (R0 : World → World → Prop) (htr0 : ∀ u v, S w.drew u → R0 u v → S w.drew v) (Φ : List (SP R))
    (hst : ∀ i v w w', i < n → i ≠ k0 → (keep i = true ∨ ∃ j, j < n ∧ j ≠ k0 ∧ dep l.toArray j i = true) → SP.at Φ i v w → R0 w w' → SP.at Φ i v w')
    (hs : StepsOK P l.toArray Q n keep (fun _ _ _ => True) S (fun k => if k = k0 then R0 else R) (SP.at Φ) a0 w.drew 0 (l.take n))
    (hrest : ∀ us w', S w.drew w' → (∀ i o d, i < n → l[i]? = some o → o.dst = some d → keep i = true → SP.at Φ i (us i) w') → wpList P l.toArray Q (l.drop n) (fillAct a0 (l.take n) us 0) w') :
    (Code.region id l.toArray true).wp P Q a0 w :=
  wp_region_stab n hm hB keep S (fun k => if k = k0 then R0 else R) hrefl
    (fun k u v hu hk => by
      by_cases h : k = k0
      · simp only [h, if_true] at hk; exact htr0 u v hu hk
      · simp only [h, if_false] at hk; exact htr _ u v hu hk) (SP.at Φ)
    (fun k i v w w' hk hi hne hneed h hR => by
      by_cases h0 : k = k0
      · subst h0; simp only [if_true] at hR; exact hst i v w w' hi hne hneed h hR
      · simp only [h0, if_false] at hR; exact SP.at_st Φ i v w w' h hR) hs hrest

/-- A word that bears what the one operation does. -/
def Bears {R : World → World → Prop} (R0 : World → World → Prop) (p : SP R) : Prop := ∀ v w w', p.p v w → R0 w w' → p.p v w'
theorem bears_is {R R0 : World → World → Prop} {x : Value} : Bears R0 (SP.is (R := R) x) := fun _ _ _ h _ => h
def AllBear {R : World → World → Prop} (ops : Array Oper) (n : Nat) (keep : Nat → Bool) (k0 : Nat) (R0 : World → World → Prop) : Nat → List (SP R) → Prop
  | _, [] => True
  | i, p :: r => (i = k0 ∨ (keep i = false ∧ ((List.range n).all fun j => !dep ops j i || j == k0) = true) ∨ Bears R0 p) ∧ AllBear ops n keep k0 R0 (i + 1) r
theorem AllBear.cons {R : World → World → Prop} {ops : Array Oper} {n : Nat} {keep : Nat → Bool} {k0 i : Nat} {R0 : World → World → Prop} {p : SP R} {r : List (SP R)} (h : Bears R0 p) (hr : AllBear ops n keep k0 R0 (i + 1) r) : AllBear ops n keep k0 R0 i (p :: r) := ⟨.inr (.inr h), hr⟩
theorem AllBear.own {R : World → World → Prop} {ops : Array Oper} {n : Nat} {keep : Nat → Bool} {k0 i : Nat} {R0 : World → World → Prop} {p : SP R} {r : List (SP R)} (h : i = k0) (hr : AllBear ops n keep k0 R0 (i + 1) r) : AllBear ops n keep k0 R0 i (p :: r) := ⟨.inl h, hr⟩
theorem AllBear.past {R : World → World → Prop} {ops : Array Oper} {n : Nat} {keep : Nat → Bool} {k0 i : Nat} {R0 : World → World → Prop} {p : SP R} {r : List (SP R)} (h : keep i = false) (h' : ((List.range n).all fun j => !dep ops j i || j == k0) = true) (hr : AllBear ops n keep k0 R0 (i + 1) r) : AllBear ops n keep k0 R0 i (p :: r) := ⟨.inr (.inl ⟨h, h'⟩), hr⟩
theorem AllBear.nil {R : World → World → Prop} {ops : Array Oper} {n : Nat} {keep : Nat → Bool} {k0 i : Nat} {R0 : World → World → Prop} : AllBear (R := R) ops n keep k0 R0 i [] := trivial
theorem AllBear.get {R : World → World → Prop} {ops : Array Oper} {n : Nat} {keep : Nat → Bool} {k0 : Nat} {R0 : World → World → Prop} : ∀ (l : List (SP R)) (k i : Nat) (p : SP R), AllBear ops n keep k0 R0 k l → l[i]? = some p → (k + i = k0 ∨ (keep (k + i) = false ∧ ((List.range n).all fun j => !dep ops j (k + i) || j == k0) = true) ∨ Bears R0 p)
  | [], _, i, p, _, h => by simp at h
  | x :: r, k, 0, p, hs, h => by simp at h; subst h; exact hs.1
  | x :: r, k, i + 1, p, hs, h => by
    have := AllBear.get r (k + 1) i p hs.2 (by simpa using h)
    rwa [show k + 1 + i = k + (i + 1) by omega] at this
theorem AllBear.st {R : World → World → Prop} {ops : Array Oper} {n : Nat} {keep : Nat → Bool} {k0 : Nat} {R0 : World → World → Prop} {Φ : List (SP R)} (h : AllBear ops n keep k0 R0 0 Φ) :
    ∀ i v w w', i < n → i ≠ k0 → (keep i = true ∨ ∃ j, j < n ∧ j ≠ k0 ∧ dep ops j i = true) → SP.at Φ i v w → R0 w w' → SP.at Φ i v w' := by
  intro i v w w' _ hne hneed hat hR
  unfold SP.at at *
  cases hp : Φ[i]? with
  | none => trivial
  | some p =>
    rw [hp] at hat
    have := AllBear.get Φ 0 i p h hp
    rw [Nat.zero_add] at this
    rcases this with h1 | ⟨h1, h2⟩ | h1
    · exact absurd h1 hne
    · rcases hneed with h3 | ⟨j, hjn, hj, hd⟩
      · rw [h1] at h3; cases h3
      · have := List.all_eq_true.1 h2 j (List.mem_range.2 hjn)
        rw [hd] at this
        simp at this
        exact absurd this hj
    · exact h1 v w w' hat hR

/-- The value of an operation ahead, where its word says it whole. -/
theorem got {R : World → World → Prop} {Φ : List (SP R)} {ops : Array Oper} {a : Act} {W : World} {L N : Nat → Prop} (hφ : ∀ j o' d, L j → ops[j]? = some o' → o'.dst = some d → ∃ v, a.tmps[d]? = some v ∧ (N j → SP.at Φ j v W))
    {j : Nat} {o' : Oper} {d : Tmp} {x : Value} (hL : L j ∧ N j) (h1 : ops[j]? = some o') (h2 : o'.dst = some d) (h3 : Φ[j]? = some (SP.is x)) : a.tmps[d]? = some x := by
  obtain ⟨v, e, p⟩ := hφ j o' d hL.1 h1 h2
  have p := p hL.2
  unfold SP.at at p
  rw [h3] at p
  rw [e]
  exact congrArg some p
/-- A slot that operation k alone writes is as it was, while one that k waits for is not done. -/
theorem yetOld {ops : Array Oper} {a a0 : Act} {L : Nat → Prop} {i : Nat} {X : Prop} (h : (∀ j k, L j → dep ops j k = true → L k) ∧ ¬ L i ∧ (∀ t : Tmp, (∀ j o', L j → ops[j]? = some o' → o'.dst ≠ some t) → a.tmps[t]? = a0.tmps[t]?) ∧ X)
    (t : Tmp) (k : Nat) (hk : ((List.range ops.size).all fun j => j == k || ((ops[j]?).bind (·.dst)) != some t) = true) (hd : dep ops k i = true) : a.tmps[t]? = a0.tmps[t]? := by
  refine h.2.2.1 t (fun j o' hj ho' e => ?_)
  have hlt := (Array.getElem?_eq_some_iff.1 ho').1
  have h1 := List.all_eq_true.1 hk j (List.mem_range.2 hlt)
  rw [ho', Option.bind_some, e] at h1
  simp at h1
  subst h1
  exact h.2.1 (h.1 _ _ hj hd)
/-- The same, where its word says less. -/
theorem gotP {R : World → World → Prop} {Φ : List (SP R)} {ops : Array Oper} {a : Act} {W : World} {L N : Nat → Prop} (hφ : ∀ j o' d, L j → ops[j]? = some o' → o'.dst = some d → ∃ v, a.tmps[d]? = some v ∧ (N j → SP.at Φ j v W))
    {j : Nat} {o' : Oper} {d : Tmp} {p : SP R} (hL : L j ∧ N j) (h1 : ops[j]? = some o') (h2 : o'.dst = some d) (h3 : Φ[j]? = some p) : ∃ v, a.tmps[d]? = some v ∧ p.p v W := by
  obtain ⟨v, e, q⟩ := hφ j o' d hL.1 h1 h2
  have q := q hL.2
  unfold SP.at at q
  rw [h3] at q
  exact ⟨v, e, q⟩
end

end Go.Proofs.Ytgkddbpfjbgelaa
