/-
  What links lead to; a tour along them; the two passes that find the parts. No walk is here.
-/
import Derived.Test.YtgkddbpfjbgelaaBase
namespace Go.Proofs.Ytgkddbpfjbgelaa
set_option maxRecDepth 100000
set_option linter.unusedVariables false

/-- What links lead to, by any way. -/
inductive Rch (nx : Nat → List Nat) : Nat → Nat → Prop
  | refl (a : Nat) : Rch nx a a
  | step {a b c : Nat} : b ∈ nx a → Rch nx b c → Rch nx a c

theorem Rch.one {nx : Nat → List Nat} {a b : Nat} (h : b ∈ nx a) : Rch nx a b := .step h (.refl b)
theorem Rch.trans {nx : Nat → List Nat} {a b c : Nat} (h : Rch nx a b) (k : Rch nx b c) : Rch nx a c := by
  induction h with
  | refl => exact k
  | step h1 _ ih => exact .step h1 (ih k)
theorem Rch.snoc {nx : Nat → List Nat} {a b c : Nat} (h : Rch nx a b) (k : c ∈ nx b) : Rch nx a c := h.trans (.one k)
theorem Rch.back {nx bk : Nat → List Nat} (hb : ∀ a b, b ∈ bk a ↔ a ∈ nx b) {a b : Nat} (h : Rch bk a b) : Rch nx b a := by
  induction h with
  | refl => exact .refl _
  | step h1 _ ih => exact ih.snoc ((hb _ _).1 h1)
theorem Rch.inside {nx : Nat → List Nat} {n : Nat} (hn : ∀ a b, b ∈ nx a → b < n) {a b : Nat} (h : Rch nx a b) (ha : a < n) : b < n := by
  induction h with
  | refl => exact ha
  | step h1 _ ih => exact ih (hn _ _ h1)

/-- Each is led to from the other one. -/
def Same (nx : Nat → List Nat) (a b : Nat) : Prop := Rch nx a b ∧ Rch nx b a
theorem Same.refl (nx : Nat → List Nat) (a : Nat) : Same nx a a := ⟨.refl a, .refl a⟩
theorem Same.symm {nx : Nat → List Nat} {a b : Nat} (h : Same nx a b) : Same nx b a := ⟨h.2, h.1⟩
theorem Same.trans {nx : Nat → List Nat} {a b c : Nat} (h : Same nx a b) (k : Same nx b c) : Same nx a c := ⟨h.1.trans k.1, k.2.trans h.2⟩

/-! ### A tour -/
/-- The way: each is led to from the one below it, the lowest is where the tour began. -/
def Stk (nx : Nat → List Nat) (from_ : Nat) : List (Nat × Nat) → Prop
  | [] => True
  | [x] => x.1 = from_
  | x :: y :: r => x.1 ∈ nx y.1 ∧ Stk nx from_ (y :: r)

theorem Stk.tail {nx : Nat → List Nat} {f : Nat} {x : Nat × Nat} {r : List (Nat × Nat)} (h : Stk nx f (x :: r)) : Stk nx f r := by
  cases r with
  | nil => trivial
  | cons y r => exact h.2
theorem Stk.tried {nx : Nat → List Nat} {f : Nat} {x y : Nat × Nat} {r : List (Nat × Nat)} (h : Stk nx f (x :: r)) (e : y.1 = x.1) : Stk nx f (y :: r) := by
  cases r with
  | nil => exact e.trans h
  | cons z r => exact ⟨e ▸ h.1, h.2⟩
/-- Whatever stands on the way leads to its top. -/
theorem Stk.top {nx : Nat → List Nat} {f : Nat} : ∀ {r : List (Nat × Nat)} {x : Nat × Nat}, Stk nx f (x :: r) → ∀ y ∈ x :: r, Rch nx y.1 x.1
  | [], x, h, y, hy => by
    simp only [List.mem_cons, List.not_mem_nil, or_false] at hy
    subst hy
    exact .refl _
  | z :: r, x, h, y, hy => by
    rcases List.mem_cons.1 hy with rfl | hy
    · exact .refl _
    · exact (Stk.top h.2 y hy).snoc h.1

structure TInv (nx : Nat → List Nat) (from_ : Nat) (b0 bn : Nat → Bool) (way : List (Nat × Nat)) (lf : List Nat) : Prop where
  been : ∀ i, bn i = true ↔ b0 i = true ∨ i ∈ way.map (·.1) ∨ i ∈ lf
  new : ∀ i, i ∈ way.map (·.1) ∨ i ∈ lf → b0 i = false
  nod : (way.map (·.1) ++ lf).Nodup
  stk : Stk nx from_ way
  tried : ∀ x ∈ way, x.2 ≤ (nx x.1).length ∧ ∀ y ∈ (nx x.1).take x.2, bn y = true
  done : ∀ x ∈ lf, ∀ y ∈ nx x, bn y = true
  rch : ∀ i, i ∈ way.map (·.1) ∨ i ∈ lf → Rch nx from_ i
  fst : from_ ∈ way.map (·.1) ∨ from_ ∈ lf
  ord : ∀ (i x : Nat), lf[i]? = some x → ∀ z ∈ nx x, b0 z = true ∨ (∃ j : Nat, lf[j]? = some z ∧ (j ≤ i ∨ ∀ k u : Nat, i ≤ k → k ≤ j → lf[k]? = some u → Rch nx z u)) ∨
    (z ∈ way.map (·.1) ∧ ∀ k u : Nat, i ≤ k → lf[k]? = some u → Rch nx z u)

def setB (bn : Nat → Bool) (k : Nat) : Nat → Bool := fun i => if i = k then true else bn i
theorem setB_true (bn : Nat → Bool) (k i : Nat) : setB bn k i = true ↔ i = k ∨ bn i = true := by
  unfold setB; split <;> simp_all

theorem TInv.begin (nx : Nat → List Nat) (f : Nat) (b0 : Nat → Bool) (h : b0 f = false) : TInv nx f b0 (setB b0 f) [(f, 0)] [] := by
  refine ⟨fun i => ?_, fun i hi => ?_, by simp, rfl, ?_, by simp, ?_, by simp, by simp⟩
  · rw [setB_true]; simp [or_comm]
  · simp at hi; subst hi; exact h
  · intro x hx; simp at hx; subst hx; simp
  · intro i hi; simp at hi; subst hi; exact .refl _

theorem getElem?_snoc (l : List Nat) (a : Nat) (i x : Nat) : (l ++ [a])[i]? = some x ↔ l[i]? = some x ∨ i = l.length ∧ x = a := by
  by_cases h : i < l.length
  · rw [List.getElem?_append_left h]
    constructor
    · exact .inl
    · rintro (h1 | ⟨h1, -⟩)
      · exact h1
      · omega
  · rw [List.getElem?_append_right (by omega), List.getElem?_eq_none (by omega : l.length ≤ i)]
    by_cases h2 : i = l.length
    · subst h2; simp [eq_comm]
    · have : i - l.length = (i - l.length - 1) + 1 := by omega
      rw [this]; simp [h2]

/-- The top is left: all that it leads to has been. -/
theorem TInv.leave {nx : Nat → List Nat} {f : Nat} {b0 bn : Nat → Bool} {a k : Nat} {r : List (Nat × Nat)} {lf : List Nat} (h : TInv nx f b0 bn ((a, k) :: r) lf) (hk : k = (nx a).length) :
    TInv nx f b0 bn r (lf ++ [a]) := by
  have hm : ∀ i, i ∈ r.map (·.1) ∨ i ∈ lf ++ [a] ↔ i ∈ ((a, k) :: r).map (·.1) ∨ i ∈ lf := by
    intro i
    simp only [List.map_cons, List.mem_cons, List.mem_append, List.not_mem_nil, or_false]
    constructor
    · rintro (h | h | h) <;> simp [h]
    · rintro ((h | h) | h) <;> simp [h]
  have hd : ∀ y ∈ nx a, bn y = true := by
    intro y hy
    have := (h.tried (a, k) (by simp)).2 y
    simp only [hk, List.take_length] at this
    exact this hy
  refine ⟨fun i => by rw [h.been]; exact or_congr_right (hm i).symm, fun i hi => h.new i ((hm i).1 hi), ?_, h.stk.tail, fun x hx => h.tried x (by simp [hx]), ?_, fun i hi => h.rch i ((hm i).1 hi), (hm f).2 h.fst, ?_⟩
  · have := h.nod
    simp only [List.map_cons, List.cons_append] at this
    have h2 := List.nodup_cons.1 this
    rw [← List.append_assoc]
    refine List.nodup_append.2 ⟨h2.2, by simp, fun x hx y hy e => ?_⟩
    simp at hy
    subst hy; subst e
    exact h2.1 hx
  · intro x hx y hy
    rcases List.mem_append.1 hx with hx | hx
    · exact h.done x hx y hy
    · simp at hx; subst hx; exact hd y hy
  · intro i x hi z hz
    rcases (getElem?_snoc lf a i x).1 hi with hi | ⟨rfl, rfl⟩
    · rcases h.ord i x hi z hz with h1 | ⟨j, hj, h1⟩ | ⟨h1, h2⟩
      · exact .inl h1
      · refine .inr (.inl ⟨j, (getElem?_snoc lf a j z).2 (.inl hj), ?_⟩)
        rcases h1 with h1 | h1
        · exact .inl h1
        · refine .inr (fun k' u hk1 hk2 hu => ?_)
          have : j < lf.length := by
            rcases Nat.lt_or_ge j lf.length with h | h
            · exact h
            · rw [List.getElem?_eq_none h] at hj; cases hj
          rcases (getElem?_snoc lf a k' u).1 hu with hu | ⟨rfl, rfl⟩
          · exact h1 k' u hk1 hk2 hu
          · omega
      · have hza : Rch nx z a := by
          obtain ⟨y, hy, rfl⟩ := List.mem_map.1 h1
          exact h.stk.top y hy
        have hall : ∀ k' u : Nat, i ≤ k' → (lf ++ [a])[k']? = some u → Rch nx z u := by
          intro k' u hk hu
          rcases (getElem?_snoc lf a k' u).1 hu with hu | ⟨rfl, rfl⟩
          · exact h2 k' u hk hu
          · exact hza
        simp only [List.map_cons, List.mem_cons] at h1
        rcases h1 with rfl | h1
        · exact .inr (.inl ⟨lf.length, (getElem?_snoc lf z _ _).2 (.inr ⟨rfl, rfl⟩), .inr (fun k' u hk _ hu => hall k' u hk hu)⟩)
        · exact .inr (.inr ⟨h1, hall⟩)
    · rcases (h.been z).1 (hd z hz) with h1 | h1 | h1
      · exact .inl h1
      · have hzx : Rch nx z x := by
          obtain ⟨y, hy, rfl⟩ := List.mem_map.1 h1
          exact h.stk.top y hy
        simp only [List.map_cons, List.mem_cons] at h1
        rcases h1 with rfl | h1
        · exact .inr (.inl ⟨lf.length, (getElem?_snoc lf z _ _).2 (.inr ⟨rfl, rfl⟩), .inl (Nat.le_refl _)⟩)
        · refine .inr (.inr ⟨h1, fun k' u hk hu => ?_⟩)
          rcases (getElem?_snoc lf x k' u).1 hu with hu | ⟨rfl, rfl⟩
          · exfalso
            have : k' < lf.length := by
              rcases Nat.lt_or_ge k' lf.length with h | h
              · exact h
              · rw [List.getElem?_eq_none h] at hu; cases hu
            omega
          · exact hzx
      · obtain ⟨j, hj⟩ := List.mem_iff_getElem?.1 h1
        refine .inr (.inl ⟨j, (getElem?_snoc lf x j z).2 (.inl hj), .inl ?_⟩)
        rcases Nat.lt_or_ge j lf.length with h | h
        · omega
        · rw [List.getElem?_eq_none h] at hj; cases hj

/-- One more link is tried: it leads to where the tour has been. -/
theorem TInv.old {nx : Nat → List Nat} {f : Nat} {b0 bn : Nat → Bool} {a k y : Nat} {r : List (Nat × Nat)} {lf : List Nat} (h : TInv nx f b0 bn ((a, k) :: r) lf) (hy : (nx a)[k]? = some y) (hb : bn y = true) :
    TInv nx f b0 bn ((a, k + 1) :: r) lf := by
  refine ⟨h.been, h.new, h.nod, h.stk.tried rfl, ?_, h.done, h.rch, h.fst, h.ord⟩
  intro x hx
  rcases List.mem_cons.1 hx with rfl | hx
  · have hlt : k < (nx a).length := by
      rcases Nat.lt_or_ge k (nx a).length with h | h
      · exact h
      · rw [List.getElem?_eq_none h] at hy; cases hy
    refine ⟨hlt, fun z hz => ?_⟩
    rw [List.take_add_one, hy] at hz
    rcases List.mem_append.1 hz with hz | hz
    · exact (h.tried (a, k) (by simp)).2 z hz
    · simp at hz; subst hz; exact hb
  · exact h.tried x (by simp [hx])

/-- It leads elsewhere. -/
theorem TInv.go {nx : Nat → List Nat} {f : Nat} {b0 bn : Nat → Bool} {a k y : Nat} {r : List (Nat × Nat)} {lf : List Nat} (h : TInv nx f b0 bn ((a, k) :: r) lf) (hy : (nx a)[k]? = some y) (hb : bn y = false) :
    TInv nx f b0 (setB bn y) ((y, 0) :: (a, k + 1) :: r) lf := by
  have hmo : ∀ i, bn i = true → setB bn y i = true := fun i hi => (setB_true _ _ _).2 (.inr hi)
  have hlt : k < (nx a).length := by
    rcases Nat.lt_or_ge k (nx a).length with h | h
    · exact h
    · rw [List.getElem?_eq_none h] at hy; cases hy
  have hya : y ∈ nx a := List.mem_iff_getElem?.2 ⟨k, hy⟩
  have hno : ¬(b0 y = true ∨ y ∈ ((a, k) :: r).map (·.1) ∨ y ∈ lf) := by rw [← h.been, hb]; simp
  refine ⟨fun i => ?_, fun i hi => ?_, ?_, ⟨hya, h.stk.tried rfl⟩, ?_, fun x hx z hz => hmo z (h.done x hx z hz), ?_, ?_, ?_⟩
  · rw [setB_true, h.been]
    simp only [List.map_cons, List.mem_cons]
    constructor
    · rintro (h1 | h1 | (h1 | h1) | h1) <;> simp [h1]
    · rintro (h1 | (h1 | h1 | h1) | h1) <;> simp [h1]
  · simp only [List.map_cons, List.mem_cons] at hi
    rcases hi with (rfl | h1 | h1) | h1
    · cases hb0 : b0 i with
      | false => rfl
      | true => exact absurd (.inl hb0) hno
    · exact h.new i (.inl (by simp [h1]))
    · exact h.new i (.inl (by simp only [List.map_cons, List.mem_cons]; exact .inr h1))
    · exact h.new i (.inr h1)
  · have := h.nod
    simp only [List.map_cons, List.cons_append] at this ⊢
    refine List.nodup_cons.2 ⟨fun hm => hno (.inr ?_), this⟩
    simp only [List.map_cons, List.mem_cons, List.mem_append] at hm ⊢
    rcases hm with h1 | h1 | h1 <;> simp [h1]
  · intro x hx
    simp only [List.mem_cons] at hx
    rcases hx with rfl | rfl | hx
    · simp
    · refine ⟨hlt, fun z hz => ?_⟩
      rw [List.take_add_one, hy] at hz
      rcases List.mem_append.1 hz with hz | hz
      · exact hmo z ((h.tried (a, k) (by simp)).2 z hz)
      · simp at hz; subst hz; exact (setB_true _ _ _).2 (.inl rfl)
    · have := h.tried x (by simp [hx])
      exact ⟨this.1, fun z hz => hmo z (this.2 z hz)⟩
  · intro i hi
    simp only [List.map_cons, List.mem_cons] at hi
    rcases hi with (rfl | h1 | h1) | h1
    · exact (h.rch a (.inl (by simp))).snoc hya
    · exact h.rch i (.inl (by simp [h1]))
    · exact h.rch i (.inl (by simp only [List.map_cons, List.mem_cons]; exact .inr h1))
    · exact h.rch i (.inr h1)
  · rcases h.fst with h1 | h1
    · exact .inl (by simp only [List.map_cons, List.mem_cons] at h1 ⊢; exact .inr h1)
    · exact .inr h1
  · intro i x hi z hz
    rcases h.ord i x hi z hz with h1 | h1 | ⟨h1, h2⟩
    · exact .inl h1
    · exact .inr (.inl h1)
    · exact .inr (.inr ⟨by simp only [List.map_cons, List.mem_cons] at h1 ⊢; exact .inr h1, h2⟩)

/-- What a tour has done. -/
structure TourTo (nx : Nat → List Nat) (from_ : Nat) (b0 bn : Nat → Bool) (lf : List Nat) : Prop where
  been : ∀ i, bn i = true ↔ b0 i = true ∨ i ∈ lf
  new : ∀ i ∈ lf, b0 i = false
  nod : lf.Nodup
  done : ∀ x ∈ lf, ∀ y ∈ nx x, b0 y = true ∨ y ∈ lf
  rch : ∀ i ∈ lf, Rch nx from_ i
  fst : from_ ∈ lf
  ord : ∀ (i x : Nat), lf[i]? = some x → ∀ z ∈ nx x, b0 z = true ∨ (∃ j : Nat, lf[j]? = some z ∧ (j ≤ i ∨ ∀ k u : Nat, i ≤ k → k ≤ j → lf[k]? = some u → Rch nx z u))
theorem TInv.to {nx : Nat → List Nat} {f : Nat} {b0 bn : Nat → Bool} {lf : List Nat} (h : TInv nx f b0 bn [] lf) : TourTo nx f b0 bn lf := by
  have hbn : ∀ i, bn i = true ↔ b0 i = true ∨ i ∈ lf := by intro i; rw [h.been]; simp
  refine ⟨hbn, fun i hi => h.new i (.inr hi), by simpa using h.nod, fun x hx y hy => (hbn y).1 (h.done x hx y hy), fun i hi => h.rch i (.inr hi), by simpa using h.fst, fun i x hi z hz => ?_⟩
  rcases h.ord i x hi z hz with h1 | h1 | ⟨h1, -⟩
  · exact .inl h1
  · exact .inr h1
  · simp at h1

/-! ### How long a tour goes on -/
def sumB (nx : Nat → List Nat) (bn : Nat → Bool) : Nat → Nat
  | 0 => 0
  | n + 1 => sumB nx bn n + if bn n then 0 else (nx n).length + 1
def sumW (nx : Nat → List Nat) : List (Nat × Nat) → Nat
  | [] => 0
  | x :: r => (nx x.1).length - x.2 + 1 + sumW nx r
theorem sumB_set (nx : Nat → List Nat) (bn : Nat → Bool) (y : Nat) (hy : bn y = false) : ∀ n, y < n → sumB nx (setB bn y) n + (nx y).length + 1 = sumB nx bn n := by
  have hle : ∀ n, n ≤ y → sumB nx (setB bn y) n = sumB nx bn n := by
    intro n
    induction n with
    | zero => intro _; rfl
    | succ n ih =>
      intro h
      rw [sumB, sumB, ih (by omega)]
      have : setB bn y n = bn n := by unfold setB; rw [if_neg (by omega)]
      rw [this]
  intro n
  induction n with
  | zero => intro h; omega
  | succ n ih =>
    intro h
    rw [sumB, sumB]
    by_cases hn : n = y
    · subst hn
      rw [hle n (Nat.le_refl _), hy]
      have : setB bn n n = true := by unfold setB; rw [if_pos rfl]
      rw [this]
      simp
      omega
    · have := ih (by omega)
      have h2 : setB bn y n = bn n := by unfold setB; rw [if_neg hn]
      rw [h2]
      omega

/-! ### The first pass: all places, in the order in which they are left -/
structure Pass (nx : Nat → List Nat) (lf : List Nat) : Prop where
  nod : lf.Nodup
  done : ∀ x ∈ lf, ∀ y ∈ nx x, y ∈ lf
  ord : ∀ (i x : Nat), lf[i]? = some x → ∀ z ∈ nx x, ∃ j : Nat, lf[j]? = some z ∧ (j ≤ i ∨ ∀ k u : Nat, i ≤ k → k ≤ j → lf[k]? = some u → Rch nx z u)
theorem Pass.nil (nx : Nat → List Nat) : Pass nx [] := ⟨by simp, by simp, by simp⟩
theorem getElem?_app (l m : List Nat) (i x : Nat) : (l ++ m)[i]? = some x ↔ l[i]? = some x ∨ l.length ≤ i ∧ m[i - l.length]? = some x := by
  by_cases h : i < l.length
  · rw [List.getElem?_append_left h]
    constructor
    · exact .inl
    · rintro (h1 | ⟨h1, -⟩)
      · exact h1
      · omega
  · rw [List.getElem?_append_right (by omega), List.getElem?_eq_none (by omega : l.length ≤ i)]
    simp; omega
theorem lt_of_getElem? {l : List Nat} {i x : Nat} (h : l[i]? = some x) : i < l.length := by
  rcases Nat.lt_or_ge i l.length with h1 | h1
  · exact h1
  · rw [List.getElem?_eq_none h1] at h; cases h
theorem Pass.more {nx : Nat → List Nat} {l lf : List Nat} {f : Nat} {b0 bn : Nat → Bool} (h : Pass nx l) (hb : ∀ i, b0 i = true ↔ i ∈ l) (t : TourTo nx f b0 bn lf) : Pass nx (l ++ lf) ∧ (∀ i, bn i = true ↔ i ∈ l ++ lf) := by
  refine ⟨⟨List.nodup_append.2 ⟨h.nod, t.nod, fun a ha b hb' e => ?_⟩, fun x hx y hy => ?_, fun i x hi z hz => ?_⟩, fun i => by rw [t.been, hb, List.mem_append]⟩
  · subst e
    have := t.new a hb'
    rw [(hb a).2 ha] at this
    cases this
  · rcases List.mem_append.1 hx with hx | hx
    · exact List.mem_append.2 (.inl (h.done x hx y hy))
    · rcases t.done x hx y hy with h1 | h1
      · exact List.mem_append.2 (.inl ((hb y).1 h1))
      · exact List.mem_append.2 (.inr h1)
  · rcases (getElem?_app l lf i x).1 hi with hi | ⟨hle, hi⟩
    · obtain ⟨j, hj, h1⟩ := h.ord i x hi z hz
      refine ⟨j, (getElem?_app l lf j z).2 (.inl hj), ?_⟩
      rcases h1 with h1 | h1
      · exact .inl h1
      · refine .inr (fun k u hk1 hk2 hu => ?_)
        rcases (getElem?_app l lf k u).1 hu with hu | ⟨hu, -⟩
        · exact h1 k u hk1 hk2 hu
        · have := lt_of_getElem? hj
          omega
    · rcases t.ord _ x hi z hz with h1 | ⟨j, hj, h1⟩
      · obtain ⟨j, hj⟩ := List.mem_iff_getElem?.1 ((hb z).1 h1)
        have := lt_of_getElem? hj
        exact ⟨j, (getElem?_app l lf j z).2 (.inl hj), .inl (by omega)⟩
      · refine ⟨l.length + j, (getElem?_app l lf _ z).2 (.inr ⟨by omega, by rw [Nat.add_sub_cancel_left]; exact hj⟩), ?_⟩
        rcases h1 with h1 | h1
        · exact .inl (by omega)
        · refine .inr (fun k u hk1 hk2 hu => ?_)
          rcases (getElem?_app l lf k u).1 hu with hu | ⟨hu, hu2⟩
          · have := lt_of_getElem? hu
            omega
          · exact h1 _ u (by omega) (by omega) hu2

/-- Who leads to what was left later is left behind it, or one of its own part is. -/
theorem Pass.last {nx : Nat → List Nat} {l : List Nat} (h : Pass nx l) {i x : Nat} (hi : l[i]? = some x) {z : Nat} (hz : Rch nx x z) :
    ∃ j : Nat, l[j]? = some z ∧ (j ≤ i ∨ ∃ (k s : Nat), l[k]? = some s ∧ i < k ∧ Same nx x s) := by
  have main : ∀ {a z : Nat}, Rch nx a z → ∀ {i' : Nat}, l[i']? = some a → i' ≤ i → Rch nx x a → ∃ j : Nat, l[j]? = some z ∧ (j ≤ i ∨ ∃ (k s : Nat), l[k]? = some s ∧ i < k ∧ Same nx x s) := by
    intro a z hr
    induction hr with
    | refl a => intro i' h1 h2 _; exact ⟨i', h1, .inl h2⟩
    | @step a b c hab hr ih =>
      intro i' h1 h2 h3
      obtain ⟨j, hj, h4⟩ := h.ord i' a h1 b hab
      by_cases hji : j ≤ i
      · exact ih hj hji (h3.snoc hab)
      · rcases h4 with h4 | h4
        · omega
        · have hbx : Rch nx b x := h4 i x h2 (by omega) hi
          have hcl : ∀ {u v : Nat}, Rch nx u v → u ∈ l → v ∈ l := by
            intro u v huv
            induction huv with
            | refl => exact id
            | step h5 _ ih => exact fun hu => ih (h.done _ hu _ h5)
          obtain ⟨j', hj'⟩ := List.mem_iff_getElem?.1 (hcl hr (List.mem_iff_getElem?.2 ⟨j, hj⟩))
          exact ⟨j', hj', .inr ⟨j, b, hj, by omega, h3.snoc hab, hbx⟩⟩
  exact main hz hi (Nat.le_refl _) (.refl _)

/-! ### The second pass: against the links, from the last one left -/
structure Pass2 (nx : Nat → List Nat) (l : List Nat) (m : Nat) (bn : Nat → Bool) (ps : List (List Nat)) : Prop where
  here : ∀ (k s : Nat), m ≤ k → l[k]? = some s → bn s = true
  inl : ∀ i, bn i = true → i ∈ l
  same : ∀ a b, bn a = true → Same nx a b → bn b = true
  each : ∀ p ∈ ps, p ≠ [] ∧ p.Nodup ∧ ∀ a ∈ p, ∀ b, b ∈ p ↔ Same nx a b
  mem : ∀ i, bn i = true ↔ ∃ p ∈ ps, i ∈ p
  apart : ps.Pairwise (fun p q => ∀ a ∈ p, a ∉ q)
theorem Pass2.begin (nx : Nat → List Nat) (l : List Nat) : Pass2 nx l l.length (fun _ => false) [] :=
  ⟨fun k s hk h => by have := lt_of_getElem? h; omega, by simp, by simp, by simp, by simp, by simp⟩
theorem Pass2.skip {nx : Nat → List Nat} {l : List Nat} {m : Nat} {bn : Nat → Bool} {ps : List (List Nat)} (h : Pass2 nx l (m + 1) bn ps) {x : Nat} (hx : l[m]? = some x) (hb : bn x = true) : Pass2 nx l m bn ps := by
  refine ⟨fun k s hk hs => ?_, h.inl, h.same, h.each, h.mem, h.apart⟩
  by_cases hkm : k = m
  · subst hkm; rw [hx] at hs; injection hs with e; subst e; exact hb
  · exact h.here k s (by omega) hs
theorem Pass2.tour {nx bk : Nat → List Nat} (hbk : ∀ a b, b ∈ bk a ↔ a ∈ nx b) {l : List Nat} {m : Nat} {b0 bn : Nat → Bool} {ps : List (List Nat)} (h0 : Pass nx l) (hall : ∀ a b, b ∈ nx a → a ∈ l) (h : Pass2 nx l (m + 1) b0 ps) {x : Nat} (hx : l[m]? = some x)
    (hb : b0 x = false) {lf : List Nat} (t : TourTo bk x b0 bn lf) : (∀ b, b ∈ lf ↔ Same nx x b) ∧ ∀ p, (∀ i, i ∈ p ↔ i ∈ lf) → p.Nodup → Pass2 nx l m bn (ps ++ [p]) := by
  have hbk' : ∀ a b, b ∈ nx a ↔ a ∈ bk b := fun a b => (hbk b a).symm
  have hxl : x ∈ l := List.mem_iff_getElem?.2 ⟨m, hx⟩
  -- whoever is come to is of the part
  have h1 : ∀ b, b ∈ lf → Same nx x b := by
    intro b hbl
    have hr : Rch nx b x := (t.rch b hbl).back hbk
    have hb0 : b0 b = false := t.new b hbl
    have hbl' : b ∈ l := by
      cases hr with
      | refl => exact hxl
      | step h5 _ => exact hall _ _ h5
    -- the last one of b's part
    apply Classical.byContradiction
    intro hns
    have hns' : ¬ Rch nx x b := fun hh => hns ⟨hh, hr⟩
    -- none of b's part is left behind m
    have hnone : ∀ (k s : Nat), l[k]? = some s → Same nx b s → k ≤ m := by
      intro k s hk hs
      apply Classical.byContradiction
      intro hkm
      have := h.here k s (by omega) hk
      have := h.same s b this hs.symm
      rw [hb0] at this
      cases this
    -- take the last one
    have hlast : ∃ (i y : Nat), l[i]? = some y ∧ Same nx b y ∧ ∀ (k s : Nat), l[k]? = some s → Same nx b s → k ≤ i := by
      obtain ⟨i0, hi0⟩ := List.mem_iff_getElem?.1 hbl'
      have : ∀ n, ∀ (i y : Nat), m - i ≤ n → l[i]? = some y → Same nx b y → ∃ (i y : Nat), l[i]? = some y ∧ Same nx b y ∧ ∀ (k s : Nat), l[k]? = some s → Same nx b s → k ≤ i := by
        intro n
        induction n with
        | zero =>
          intro i y hn hi hy
          exact ⟨i, y, hi, hy, fun k s hk hs => by have := hnone k s hk hs; omega⟩
        | succ n ih =>
          intro i y hn hi hy
          by_cases hex : ∃ (k s : Nat), l[k]? = some s ∧ Same nx b s ∧ i < k
          · obtain ⟨k, s, hk, hs, hik⟩ := hex
            exact ih k s (by have := hnone k s hk hs; omega) hk hs
          · exact ⟨i, y, hi, hy, fun k s hk hs => by
              apply Classical.byContradiction
              intro hh
              exact hex ⟨k, s, hk, hs, by omega⟩⟩
      exact this _ i0 b (Nat.le_refl _) hi0 (Same.refl _ _)
    obtain ⟨i, y, hi, hy, hmax⟩ := hlast
    have hyx : Rch nx y x := hy.2.trans hr
    obtain ⟨j, hj, h6⟩ := h0.last hi hyx
    have him : i ≤ m := hnone i y hi hy
    have hjm : j = m := by
      exact (List.getElem?_inj (lt_of_getElem? hj) h0.nod).1 (hj.trans hx.symm)
    subst hjm
    rcases h6 with h6 | ⟨k, s, hk, hik, hs⟩
    · have : i = j := by omega
      subst this
      rw [hi] at hx
      injection hx with e
      subst e
      exact hns' (hy.symm.1)
    · have := hmax k s hk (hy.trans hs)
      omega
  -- all of the part is come to
  have h2 : ∀ b, Same nx x b → b ∈ lf := by
    intro b hs
    have key : ∀ {a b : Nat}, Rch bk a b → a ∈ lf → Same nx x b → Same nx x a → b ∈ lf := by
      intro a b hr
      induction hr with
      | refl => exact fun h _ _ => h
      | @step a c b hac hr ih =>
        intro ha hb' hsa
        have hac' : a ∈ nx c := (hbk a c).1 hac
        have hsc : Same nx x c := ⟨hb'.1.trans (hr.back hbk), (Rch.one hac').trans hsa.2⟩
        rcases t.done a ha c hac with h3 | h3
        · exfalso
          have := h.same c x h3 hsc.symm
          rw [hb] at this
          cases this
        · exact ih h3 hb' hsc
    exact key (hs.2.back hbk') t.fst hs (Same.refl _ _)
  have hiff : ∀ b, b ∈ lf ↔ Same nx x b := fun b => ⟨h1 b, h2 b⟩
  refine ⟨hiff, fun p hp hpn => ⟨fun k s hk hs => ?_, fun i hi => ?_, fun a b ha hab => ?_, fun q hq => ?_, fun i => ?_, ?_⟩⟩
  · by_cases hkm : k = m
    · subst hkm; rw [hx] at hs; injection hs with e; subst e
      exact (t.been x).2 (.inr t.fst)
    · exact (t.been s).2 (.inl (h.here k s (by omega) hs))
  · rcases (t.been i).1 hi with h3 | h3
    · exact h.inl i h3
    · cases (h1 i h3).2 with
      | refl => exact hxl
      | step h5 _ => exact hall _ _ h5
  · rcases (t.been a).1 ha with h3 | h3
    · exact (t.been b).2 (.inl (h.same a b h3 hab))
    · exact (t.been b).2 (.inr (h2 b ((h1 a h3).trans hab)))
  · rcases List.mem_append.1 hq with hq | hq
    · exact h.each q hq
    · simp at hq
      subst hq
      refine ⟨fun e => ?_, hpn, fun a ha b => ?_⟩
      · have := (hp x).2 t.fst
        rw [e] at this
        cases this
      · have ha' := (hiff a).1 ((hp a).1 ha)
        rw [hp b, hiff b]
        exact ⟨fun hh => ha'.symm.trans hh, fun hh => ha'.trans hh⟩
  · rw [t.been, h.mem]
    constructor
    · rintro (⟨q, hq, hi⟩ | hi)
      · exact ⟨q, List.mem_append.2 (.inl hq), hi⟩
      · exact ⟨p, by simp, (hp i).2 hi⟩
    · rintro ⟨q, hq, hi⟩
      rcases List.mem_append.1 hq with hq | hq
      · exact .inl ⟨q, hq, hi⟩
      · simp at hq; subst hq; exact .inr ((hp i).1 hi)
  · refine List.pairwise_append.2 ⟨h.apart, by simp, fun q hq r hr a ha hra => ?_⟩
    simp at hr
    subst hr
    have h3 := t.new a ((hp a).1 hra)
    rw [(h.mem a).2 ⟨q, hq, ha⟩] at h3
    cases h3

end Go.Proofs.Ytgkddbpfjbgelaa
