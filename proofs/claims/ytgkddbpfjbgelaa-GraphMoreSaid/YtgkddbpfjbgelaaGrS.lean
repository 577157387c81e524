/-
  Stab for a region whose calls and appends wait one for another: what an operation leaves must bear only what can come while it is still wanted.
-/
import Derived.Test.YtgkddbpfjbgelaaStab
import Derived.Test.YtgkddbpfjbgelaaGrC
namespace Go.Proofs.Ytgkddbpfjbgelaa
set_option maxRecDepth 100000
set_option linter.unusedVariables false
open Go.RowKit Go.Sort

section
variable {P : Program}

theorem StabInv.stepR {ops : Array Oper} {Q : Exit → Act → World → Prop} {n : Nat} {keep : Nat → Bool} {R1 : Nat → World → World → Prop} {R : World → World → Prop} {Rk : Nat → World → World → Prop} {φ : Nat → Value → World → Prop} {a0 a : Act} {w0 w : World} {listed : Array Bool}
    (htr : ∀ k u v, R w0 u → Rk k u v → R w0 v) (htr1 : ∀ k0 k u v, k ≠ k0 → (dep ops k k0 = false ∧ ∀ m, dep ops k m = true → dep ops m k0 = false) → R1 k0 w0 u → Rk k u v → R1 k0 w0 v) (hst : ∀ k i v w w', k < n → i < n → i ≠ k → (dep ops i k = false ∧ ∀ m, dep ops i m = true → dep ops m k = false) → (keep i = true ∨ ∃ j, j < n ∧ j ≠ k ∧ dep ops j i = true ∧ dep ops k j = false ∧ ∀ m, dep ops k m = true → dep ops m j = false) → φ i v w → Rk k w w' → φ i v w') (hB : dstsB ops n a0.tmps.size = true)
    (hs : StepsOK P ops Q n keep R1 R Rk φ a0 w0 0 (ops.toList.take n)) (inv : StabInv ops n keep R1 R φ a0 w0 listed a w) {i : Nat} (hi : i ∈ Region.ready .any ops listed) (hin : i < n) :
    wpOp P ops Q i (StabInv ops n keep R1 R φ a0 w0 (listed.setIfInBounds i true)) a w := by
  obtain ⟨hun, o, ho, hall⟩ := mem_ready.1 hi
  simp only [dstsB, Bool.and_eq_true, decide_eq_true_eq] at hB
  obtain ⟨hnd, hbd⟩ := hB
  have hol : (ops.toList.take n)[i]? = some o := by rw [List.getElem?_take_of_lt hin]; simpa using ho
  have hlt : i < ops.size := (Array.getElem?_eq_some_iff.1 ho).1
  have hstep := StepsOK.get _ 0 i o hs hol
  rw [Nat.zero_add] at hstep
  have := hstep a w (fun j => listed.getD j false = true) (fun i => keep i = true ∨ ∃ j, j < n ∧ listed.getD j true = false ∧ dep ops j i = true) inv.rel inv.old (fun j o' d hj ho' hd => inv.done j o' d hj ho' hd)
    ⟨(fun j k hj hd => by
      obtain ⟨oj, hoj, e, he, hb, hon⟩ := Region.waitsFor_spec hd
      have := inv.head.closed j oj hoj hj e he hb
      rwa [hon] at this), (fun hli => by rw [getD_both hun] at hli; cases hli), inv.yet, inv.defers, fun k hn => inv.pre k (by simpa using hn)⟩
    (fun _ h => .inl h)
    (fun k hd => by
      refine ⟨?_, .inr ⟨i, hin, hun, hd⟩⟩
      obtain ⟨oj, hoj, e, he, hb, hon⟩ := Region.waitsFor_spec hd
      have e1 : oj = o := Option.some.inj (hoj.symm.trans ho)
      subst e1
      have := hall e he hb
      rwa [hon] at this)
    (StabInv ops n keep R1 R φ a0 w0 (listed.setIfInBounds i true))
    (fun v w' hR hφ => by
      have hdn : ∀ d, o.dst = some d → d < a0.tmps.size := fun d hd => by
        have := List.all_eq_true.1 hbd d (List.mem_filterMap.2 ⟨o, List.mem_of_getElem? hol, hd⟩)
        simpa using this
      refine ⟨inv.head.set hi hin, htr i _ _ inv.rel hR, fun k0 hk0 => ?_, ?_, ?_, fun t ht => ?_, fun t ht => ?_, fun j oj d hj hoj hd => ?_⟩
      · have hlt' : i < listed.size := by rw [inv.head.size]; exact hlt
        by_cases hik : i = k0
        · subst hik; simp [hlt'] at hk0
        · rw [getD_set_ne false hik] at hk0
          refine htr1 k0 i _ _ hik ⟨?_, fun m hd => ?_⟩ (inv.pre k0 hk0) hR
          · cases hd : dep ops i k0 with
            | false => rfl
            | true =>
              obtain ⟨oa, hoa, e, he, hb, hon⟩ := Region.waitsFor_spec hd
              have e1 : oa = o := Option.some.inj (hoa.symm.trans ho)
              subst e1
              have := hall e he hb
              rw [hon, hk0] at this
              cases this
          · cases hd2 : dep ops m k0 with
            | false => rfl
            | true =>
              obtain ⟨oa, hoa, e, he, hb, hon⟩ := Region.waitsFor_spec hd
              have e1 : oa = o := Option.some.inj (hoa.symm.trans ho)
              subst e1
              have h1 := hall e he hb
              rw [hon] at h1
              obtain ⟨om, hom, e', he', hb', hon'⟩ := Region.waitsFor_spec hd2
              have h2 := inv.head.closed m om hom h1 e' he' hb'
              rw [hon', hk0] at h2
              cases h2
      · cases hd : o.dst <;> simp [Act.put, inv.size]
      · cases hd : o.dst <;> simp [Act.put, inv.defers]
      · cases hd : o.dst with
        | none => exact inv.old t ht
        | some d =>
          have hne : d ≠ t := fun e => by
            have := List.all_eq_true.1 ht o (List.mem_of_getElem? hol)
            simp [hd, e] at this
          simp only [Act.put]
          rw [Array.getElem?_setIfInBounds_ne hne]
          exact inv.old t ht
      · have hlt' : i < listed.size := by rw [inv.head.size]; exact hlt
        have hi0 : o.dst ≠ some t := ht i o (by simp [hlt']) ho
        have hrec : a.tmps[t]? = a0.tmps[t]? := inv.yet t (fun j o' hj ho' => by
          by_cases hji : i = j
          · subst hji
            exact ht i o' (by simp [hlt']) ho'
          · exact ht j o' (by rw [getD_set_ne false hji]; exact hj) ho')
        cases hd : o.dst with
        | none => exact hrec
        | some d =>
          have hne : d ≠ t := fun e => hi0 (by rw [hd, e])
          simp only [Act.put]
          rw [Array.getElem?_setIfInBounds_ne hne]
          exact hrec
      · by_cases hji : i = j
        · subst hji
          have e1 : oj = o := Option.some.inj (hoj.symm.trans ho)
          subst e1
          refine ⟨v, ?_, fun _ => hφ⟩
          rw [hd]
          simp only [Act.put]
          have := hdn d hd
          rw [Array.getElem?_setIfInBounds_self_of_lt (by rw [inv.size]; exact this)]
        · rw [getD_set_ne false hji] at hj
          obtain ⟨u, hu, hφu⟩ := inv.done j oj d hj hoj hd
          have hjn : j < n := by
            rcases Nat.lt_or_ge j n with h | h
            · exact h
            · have h1 := inv.head.tail j h (Array.getElem?_eq_some_iff.1 hoj).1
              rw [getD_both h1] at hj; cases hj
          refine ⟨u, ?_, fun hneed => ?_⟩
          rotate_left
          have hlast : ∀ a b, listed.getD a false = true → dep ops a b = true → listed.getD b false = true := fun a b ha hd => by
            obtain ⟨oa, hoa, e, he, hb, hon⟩ := Region.waitsFor_spec hd
            have := inv.head.closed a oa hoa ha e he hb
            rwa [hon] at this
          have hready : ∀ m, dep ops i m = true → listed.getD m false = true := fun m hd => by
            obtain ⟨oa, hoa, e, he, hb, hon⟩ := Region.waitsFor_spec hd
            have e1 : oa = o := Option.some.inj (hoa.symm.trans ho)
            subst e1
            have := hall e he hb
            rwa [hon] at this
          have hnot : ∀ x, listed.getD x true = false → ¬ listed.getD x false = true := fun x hx h => by rw [getD_both hx] at h; cases h
          have hfree : dep ops j i = false ∧ ∀ m, dep ops j m = true → dep ops m i = false := ⟨by
            cases hd : dep ops j i with
            | false => rfl
            | true => exact absurd (hlast j i hj hd) (hnot i hun), fun m hd => by
            cases hd2 : dep ops m i with
            | false => rfl
            | true => exact absurd (hlast m i (hlast j m hj hd) hd2) (hnot i hun)⟩
          · rcases hneed with hk | ⟨x, hxn, hx, hxd⟩
            · exact hst i j _ _ _ hin hjn (Ne.symm hji) hfree (.inl hk) (hφu (.inl hk)) hR
            · have hxi : x ≠ i := fun e => by
                subst e
                have : x < listed.size := by rw [inv.head.size]; exact hlt
                simp [this] at hx
              rw [getD_set_ne true (Ne.symm hxi)] at hx
              exact hst i j _ _ _ hin hjn (Ne.symm hji) hfree (.inr ⟨x, hxn, hxi, hxd, by
                cases hd : dep ops i x with
                | false => rfl
                | true => exact absurd (hready x hd) (hnot x hx), fun m hd => by
                cases hd2 : dep ops m x with
                | false => rfl
                | true => exact absurd (hlast m x (hready m hd) hd2) (hnot x hx)⟩) (hφu (.inr ⟨x, hxn, hx, hxd⟩)) hR
          cases hd' : o.dst with
          | none => exact hu
          | some d' =>
            have hojl : (ops.toList.take n)[j]? = some oj := by rw [List.getElem?_take_of_lt hjn]; simpa using hoj
            have hne : d' ≠ d := fun e => by
              subst e
              exact hji (nodup_dst _ hnd i j o oj d' hol hojl hd' hd)
            simp only [Act.put]
            rw [Array.getElem?_setIfInBounds_ne hne]
            exact hu)
  unfold wpOp
  simp only [ho]
  split at this
  · rename_i hw; simp only [hw, if_true]; exact .inl this
  · rename_i hw; simp only [hw]; exact this

theorem stab_anyR {ops : Array Oper} {Q : Exit → Act → World → Prop} {n g : Nat} {keep : Nat → Bool} {R1 : Nat → World → World → Prop} {R : World → World → Prop} {Rk : Nat → World → World → Prop} {φ : Nat → Value → World → Prop} {a0 : Act} {w0 : World}
    (htr : ∀ k u v, R w0 u → Rk k u v → R w0 v) (htr1 : ∀ k0 k u v, k ≠ k0 → (dep ops k k0 = false ∧ ∀ m, dep ops k m = true → dep ops m k0 = false) → R1 k0 w0 u → Rk k u v → R1 k0 w0 v) (hst : ∀ k i v w w', k < n → i < n → i ≠ k → (dep ops i k = false ∧ ∀ m, dep ops i m = true → dep ops m k = false) → (keep i = true ∨ ∃ j, j < n ∧ j ≠ k ∧ dep ops j i = true ∧ dep ops k j = false ∧ ∀ m, dep ops k m = true → dep ops m j = false) → φ i v w → Rk k w w' → φ i v w') (hB : dstsB ops n a0.tmps.size = true) (hn : n ≤ ops.size)
    (hs : StepsOK P ops Q n keep R1 R Rk φ a0 w0 0 (ops.toList.take n))
    (hhead : ∀ listed, HeadInv .any ops n listed → ∀ i, i < n → listed.getD i true = false → (∃ k, k < n ∧ k ∈ Region.ready .any ops listed) ∧ ∀ t, n ≤ t → t ∉ Region.ready .any ops listed)
    (hend : ∀ listed a w, StabInv ops n keep R1 R φ a0 w0 listed a w → (∀ i, i < n → listed.getD i false = true) → wpAny P .any ops Q g listed a w) :
    ∀ (f : Nat) (listed : Array Bool) (a : Act) (w : World), ((List.range n).filter fun i => !listed.getD i true).length = f → StabInv ops n keep R1 R φ a0 w0 listed a w → wpAny P .any ops Q (f + g) listed a w := by
  intro f
  induction f with
  | zero =>
    intro listed a w hf inv
    rw [Nat.zero_add]
    refine hend listed a w inv fun i hi => ?_
    have h0 := List.filter_eq_nil_iff.1 (List.length_eq_zero_iff.1 hf) i (List.mem_range.2 hi)
    have hlt : i < listed.size := by rw [inv.head.size]; omega
    simp [hlt] at h0 ⊢
    exact h0
  | succ f ih =>
    intro listed a w hf inv
    have hex : ∃ i, i < n ∧ listed.getD i true = false := by
      cases hl : (List.range n).filter fun i => !listed.getD i true with
      | nil => rw [hl] at hf; simp at hf
      | cons x r =>
        have hx : x ∈ (List.range n).filter fun i => !listed.getD i true := by rw [hl]; simp
        obtain ⟨h1, h2⟩ := List.mem_filter.1 hx
        exact ⟨x, List.mem_range.1 h1, by simpa using h2⟩
    obtain ⟨i0, hi0, hun0⟩ := hex
    obtain ⟨⟨k, hk, hkr⟩, hno⟩ := hhead listed inv.head i0 hi0 hun0
    rw [show f + 1 + g = (f + g) + 1 by omega]
    refine ⟨fun h => (by rw [h] at hkr; cases hkr), fun i hi => ?_⟩
    have hin : i < n := by
      rcases Nat.lt_or_ge i n with h | h
      · exact h
      · exact absurd hi (hno i h)
    refine wpOp_mono (fun a' w' inv' => ih _ a' w' ?_ inv') (inv.stepR htr htr1 hst hB hs hi hin)
    have hun := (mem_ready.1 hi).1
    have hlt : i < listed.size := by rw [inv.head.size]; omega
    have hcount : ∀ (l : List Nat), l.Nodup → i ∈ l → (l.filter fun j => !listed.getD j true).length = (l.filter fun j => !(listed.setIfInBounds i true).getD j true).length + 1 := by
      intro l
      induction l with
      | nil => intro _ h; cases h
      | cons x r ihl =>
        intro hnd hm
        obtain ⟨hx, hr⟩ := List.nodup_cons.1 hnd
        by_cases hxi : x = i
        · subst hxi
          have hsame : (r.filter fun j => !listed.getD j true) = (r.filter fun j => !(listed.setIfInBounds x true).getD j true) := by
            refine List.filter_congr fun j hj => ?_
            have : x ≠ j := fun e => hx (e ▸ hj)
            rw [getD_set_ne true this]
          rw [List.filter_cons_of_pos (by simp only [hun]; rfl), List.filter_cons_of_neg (by simp [hlt]), hsame]
          rfl
        · have hm' : i ∈ r := by
            rcases List.mem_cons.1 hm with e | e
            · exact absurd e.symm hxi
            · exact e
          have hg := getD_set_ne (listed := listed) true (i := i) (j := x) (Ne.symm hxi)
          cases hv : listed.getD x true with
          | true => rw [List.filter_cons_of_neg (by rw [hv]; simp), List.filter_cons_of_neg (by rw [hg, hv]; simp)]; exact ihl hr hm'
          | false => rw [List.filter_cons_of_pos (by rw [hv]; rfl), List.filter_cons_of_pos (by rw [hg, hv]; rfl), List.length_cons, List.length_cons, ihl hr hm']
    have := hcount (List.range n) List.nodup_range (List.mem_range.2 hin)
    omega

theorem wp_region_stabR {id : Nat} {Q : Exit → Act → World → Prop} {a0 : Act} {w : World} {l : List Oper} (n : Nat) (hm : P.follows .mixedOrders = true) (hB : stabB l.toArray n a0.tmps.size = true)
    (keep : Nat → Bool) (R1 : Nat → World → World → Prop) (R : World → World → Prop) (Rk : Nat → World → World → Prop) (hrefl : R w.drew w.drew) (hrefl1 : ∀ k, R1 k w.drew w.drew) (htr : ∀ k u v, R w.drew u → Rk k u v → R w.drew v) (htr1 : ∀ k0 k u v, k ≠ k0 → (dep l.toArray k k0 = false ∧ ∀ m, dep l.toArray k m = true → dep l.toArray m k0 = false) → R1 k0 w.drew u → Rk k u v → R1 k0 w.drew v) (φ : Nat → Value → World → Prop)
    (hst : ∀ k i v w w', k < n → i < n → i ≠ k → (dep l.toArray i k = false ∧ ∀ m, dep l.toArray i m = true → dep l.toArray m k = false) → (keep i = true ∨ ∃ j, j < n ∧ j ≠ k ∧ dep l.toArray j i = true ∧ dep l.toArray k j = false ∧ ∀ m, dep l.toArray k m = true → dep l.toArray m j = false) → φ i v w → Rk k w w' → φ i v w')
    (hs : StepsOK P l.toArray Q n keep R1 R Rk φ a0 w.drew 0 (l.take n))
    (hrest : ∀ us w', R w.drew w' → (∀ i o d, i < n → l[i]? = some o → o.dst = some d → keep i = true → φ i (us i) w') → wpList P l.toArray Q (l.drop n) (fillAct a0 (l.take n) us 0) w') :
    (Code.region id l.toArray true).wp P Q a0 w := by
  simp only [stabB, Bool.and_eq_true, Bool.or_eq_true, decide_eq_true_eq] at hB
  obtain ⟨⟨hd, hb⟩, htail⟩ := hB
  have hn : n ≤ l.toArray.size := by
    rcases htail with h | h
    · omega
    · omega
  refine wp_region_any hm ?_
  have hdl : (l.drop n).length = l.toArray.size - n := by simp
  have inv0 : HeadInv .any l.toArray n (Array.replicate l.toArray.size false) :=
    ⟨by simp, fun j oj _ hl => (by rw [getD_replicate_false] at hl; cases hl), fun t _ ht => getD_in (by simpa using ht) (getD_replicate_false _ _)⟩
  have H := stab_anyR (P := P) (ops := l.toArray) (Q := Q) (n := n) (g := l.toArray.size - n) (keep := keep) (R1 := R1) (R := R) (Rk := Rk) (φ := φ) (a0 := a0) (w0 := w.drew) htr htr1 hst hd hn (by simpa using hs)
    (fun listed inv i hi hun => ⟨back_ready hb hn inv i hi hun, fun t ht => by
      rcases htail with h | ⟨⟨⟨h, h1⟩, h2⟩, h3⟩
      · intro hr
        obtain ⟨_, o, ho, _⟩ := mem_ready.1 hr
        have := (Array.getElem?_eq_some_iff.1 ho).1
        omega
      · exact tail_waits h1 h2 h inv _ i rfl hi hun t ht⟩)
    (fun listed a w' inv hall => by
      obtain ⟨us, rfl, hus⟩ := inv.fill hd hn hall
      have hW := hrest us w' inv.rel (fun i o d hi ho hd hk => hus i o d hi (by simpa using ho) hd hk)
      have hlisted : listed = (Array.replicate n true) ++ (Array.replicate (l.toArray.size - n) false) := by
        have hsz := inv.head.size
        apply Array.ext_getElem?
        intro t
        rcases Nat.lt_or_ge t n with h | h
        · have h1 := hall t h
          have hlt : t < listed.size := by rw [hsz]; omega
          simp [hlt] at h1
          rw [Array.getElem?_eq_getElem hlt, h1, Array.getElem?_append_left (by simpa using h)]
          simp [h]
        · rcases Nat.lt_or_ge t l.toArray.size with h' | h'
          · have h1 := inv.head.tail t h h'
            have hlt : t < listed.size := by rw [hsz]; omega
            simp [hlt] at h1
            rw [Array.getElem?_eq_getElem hlt, h1, Array.getElem?_append_right (by simpa using h), Array.getElem?_replicate, if_pos (by simp at h' ⊢; omega)]
          · rw [Array.getElem?_eq_none (by rw [hsz]; exact h'), Array.getElem?_eq_none (by simp at h' ⊢; omega)]
      have hseq : Region.seqB .any l.toArray (l.toArray.size - n) n listed = true := by
        rcases htail with h | ⟨_, h3⟩
        · have h0 : l.toArray.size - n = 0 := by omega
          rw [h0]
          simp only [Region.seqB, List.isEmpty_iff]
          cases hr : Region.ready .any l.toArray listed with
          | nil => rfl
          | cons x r =>
            have hx : x ∈ Region.ready .any l.toArray listed := by rw [hr]; simp
            obtain ⟨hun, o, ho, _⟩ := mem_ready.1 hx
            have hxl := (Array.getElem?_eq_some_iff.1 ho).1
            have := hall x (by omega)
            rw [getD_both hun] at this
            cases this
        · rw [hlisted]; exact h3
      have := wpAny_of_seq (P := P) (md := .any) (ops := l.toArray) (Q' := Q) (l.drop n) n listed _ w' (fun j => by simp [List.getElem?_drop]) (by rw [hdl]; exact hseq) hW
      rwa [hdl] at this)
  have hcount : ((List.range n).filter fun i => !(Array.replicate l.toArray.size false).getD i true).length = n := by
    rw [List.filter_eq_self.2 (fun i hi => by
      have := List.mem_range.1 hi
      simp at hn
      simp [show i < l.length by omega]), List.length_range]
  have := H n (Array.replicate l.toArray.size false) a0 _ hcount ⟨inv0, hrefl, fun k _ => hrefl1 k, rfl, rfl, fun _ _ => rfl, fun _ _ => rfl, fun i o d h => by rw [getD_replicate_false] at h; cases h⟩
  rw [show n + (l.toArray.size - n) = l.toArray.size by omega] at this
  exact this


/-- Is what i leaves done with, or not yet there, when k comes? -/
def exemptR (ops : Array Oper) (n : Nat) (keep : Nat → Bool) (k i : Nat) : Bool :=
  i == k || dep ops i k || ((List.range n).any fun m => dep ops i m && dep ops m k) ||
    (!keep i && (List.range n).all fun j => !dep ops j i || j == k || dep ops k j || (List.range n).any fun m => dep ops k m && dep ops m j)
def AllBig {R : World → World → Prop} (ops : Array Oper) (n : Nat) (keep : Nat → Bool) (k : Nat) (R0 : World → World → Prop) : Nat → List (SP R) → Prop
  | _, [] => True
  | i, p :: r => (exemptR ops n keep k i = true ∨ Bears R0 p) ∧ AllBig ops n keep k R0 (i + 1) r
theorem AllBig.get {R : World → World → Prop} {ops : Array Oper} {n : Nat} {keep : Nat → Bool} {k0 : Nat} {R0 : World → World → Prop} : ∀ (l : List (SP R)) (k i : Nat) (p : SP R), AllBig ops n keep k0 R0 k l → l[i]? = some p → (exemptR ops n keep k0 (k + i) = true ∨ Bears R0 p)
  | [], _, i, p, _, h => by simp at h
  | x :: r, k, 0, p, hs, h => by simp at h; subst h; exact hs.1
  | x :: r, k, i + 1, p, hs, h => by
    have := AllBig.get r (k + 1) i p hs.2 (by simpa using h)
    rwa [show k + 1 + i = k + (i + 1) by omega] at this
theorem AllBig.st {R : World → World → Prop} {ops : Array Oper} {n : Nat} {keep : Nat → Bool} {k0 : Nat} {R0 : World → World → Prop} {Φ : List (SP R)} (h : AllBig ops n keep k0 R0 0 Φ) :
    ∀ i v w w', i < n → i ≠ k0 → (dep ops i k0 = false ∧ ∀ m, dep ops i m = true → dep ops m k0 = false) → (keep i = true ∨ ∃ j, j < n ∧ j ≠ k0 ∧ dep ops j i = true ∧ dep ops k0 j = false ∧ ∀ m, dep ops k0 m = true → dep ops m j = false) → SP.at Φ i v w → R0 w w' → SP.at Φ i v w' := by
  intro i v w w' _ hne hfree hneed hat hR
  unfold SP.at at *
  cases hp : Φ[i]? with
  | none => trivial
  | some p =>
    rw [hp] at hat
    have := AllBig.get Φ 0 i p h hp
    rw [Nat.zero_add] at this
    rcases this with h1 | h1
    · unfold exemptR at h1
      simp only [Bool.or_eq_true, Bool.and_eq_true, Bool.not_eq_true', beq_iff_eq, List.any_eq_true] at h1
      rcases h1 with ((h1 | h1) | ⟨m, _, h1, h2⟩) | ⟨h1, h2⟩
      · exact absurd h1 hne
      · rw [hfree.1] at h1; cases h1
      · rw [hfree.2 m h1] at h2; cases h2
      · rcases hneed with h3 | ⟨j, hjn, hj, hd, hk1, hk2⟩
        · rw [h1] at h3; cases h3
        · have := List.all_eq_true.1 h2 j (List.mem_range.2 hjn)
          rw [hd, hk1] at this
          simp only [Bool.not_true, Bool.false_or, Bool.or_false, Bool.or_eq_true, beq_iff_eq, List.any_eq_true, Bool.and_eq_true] at this
          rcases this with h | ⟨m, _, h4, h5⟩
          · exact absurd h hj
          · rw [hk2 m h4] at h5; cases h5
    · exact h1 v w w' hat hR

/-- What big operations may turn: the blocks T, and new ones. -/
def BigRk (T : List Nat) (w0 u v : World) : Prop := ∃ S, Only S u v ∧ ∀ g ∈ S, g ∈ T ∨ w0.heap.size ≤ g
def RkB (T : List Nat) (w0 : World) (big : Nat → Bool) (k : Nat) : World → World → Prop := if big k = true then BigRk T w0 else Only []
theorem RkB.small {T : List Nat} {w0 u v : World} {big : Nat → Bool} {k : Nat} (h : big k = false) (hO : Only [] u v) : RkB T w0 big k u v := by unfold RkB; rw [if_neg (by simp [h])]; exact hO
theorem RkB.big {T : List Nat} {w0 u v : World} {big : Nat → Bool} {k : Nat} (h : big k = true) (hO : BigRk T w0 u v) : RkB T w0 big k u v := by unfold RkB; rw [if_pos h]; exact hO

/-- What stands until the first of them comes. -/
def R1C (first k : Nat) : World → World → Prop := if k = first then Only [] else fun _ _ => True
theorem R1C.get {first : Nat} {u v : World} (h : R1C first first u v) : Only [] u v := by unfold R1C at h; rwa [if_pos rfl] at h
/-- Each big operation waits for the first of them. -/
def afterB (ops : Array Oper) (n : Nat) (big : Nat → Bool) (first : Nat) : Bool := (List.range n).all fun k => !big k || k == first || dep ops k first || (List.range n).any fun m => dep ops k m && dep ops m first
theorem wp_region_chain {id : Nat} {Q : Exit → Act → World → Prop} {a0 : Act} {w : World} {l : List Oper} (n : Nat) (hm : P.follows .mixedOrders = true) (hB : stabB l.toArray n a0.tmps.size = true)
    (keep big : Nat → Bool) (first : Nat) (hF : afterB l.toArray n big first = true) (hbn : ∀ k, big k = true → k < n) (T : List Nat) (Φ : List (SP (Only []))) (hA : ∀ k, k < n → big k = true → AllBig l.toArray n keep k (BigRk T w) 0 Φ)
    (hs : StepsOK P l.toArray Q n keep (R1C first) (Only T) (RkB T w big) (SP.at Φ) a0 w.drew 0 (l.take n))
    (hrest : ∀ us w', Only T w.drew w' → (∀ i o d, i < n → l[i]? = some o → o.dst = some d → keep i = true → SP.at Φ i (us i) w') → wpList P l.toArray Q (l.drop n) (fillAct a0 (l.take n) us 0) w') :
    (Code.region id l.toArray true).wp P Q a0 w :=
  wp_region_stabR n hm hB keep (R1C first) (Only T) (RkB T w big) (Only.refl _ _) (fun k => by unfold R1C; split; exact Only.refl _ _; trivial)
    (fun k u v h hk => by
      unfold RkB at hk
      split at hk
      · obtain ⟨S, h1, h2⟩ := hk
        exact h.then h1 T (fun i hi => .inl hi) (fun i hi => (h2 i hi))
      · exact h.plus hk)
    (fun k0 k u v hne hd h hk => by
      unfold R1C at h ⊢
      split
      · rename_i h0
        rw [if_pos h0] at h
        subst h0
        unfold RkB at hk
        split at hk
        · rename_i hb
          have := List.all_eq_true.1 hF k (List.mem_range.2 (hbn k hb))
          rw [hb, hd.1] at this
          simp only [Bool.not_true, Bool.false_or, Bool.or_false, Bool.or_eq_true, beq_iff_eq, List.any_eq_true, Bool.and_eq_true] at this
          rcases this with h4 | ⟨m, _, h4, h5⟩
          · exact absurd h4 hne
          · rw [hd.2 m h4] at h5; cases h5
        · exact h.plus hk
      · trivial) (SP.at Φ)
    (fun k i v u u' hk hi hne hdep hneed h hR => by
      unfold RkB at hR
      split at hR
      · rename_i hb; exact (hA k hk hb).st i v u u' hi hne hdep hneed h hR
      · exact SP.at_st Φ i v u u' h hR) hs hrest
end

section
variable {P : Program}
/-- One operation alone turns older blocks, those of T: what the others leave must bear that. -/
def AppRk (T : List Nat) (k0 k : Nat) : World → World → Prop := if k = k0 then Only T else Only []
theorem AppRk.small {T : List Nat} {k0 k : Nat} {u v : World} (h : k ≠ k0) (hO : Only [] u v) : AppRk T k0 k u v := by unfold AppRk; rw [if_neg h]; exact hO
theorem AppRk.big {T : List Nat} {k0 : Nat} {u v : World} (hO : Only T u v) : AppRk T k0 k0 u v := by unfold AppRk; rw [if_pos rfl]; exact hO
def BearAll {R : World → World → Prop} (T : List Nat) (k0 : Nat) : Nat → List (SP R) → Prop
  | _, [] => True
  | i, p :: r => (i = k0 ∨ ∀ v w w', p.p v w → Only T w w' → p.p v w') ∧ BearAll T k0 (i + 1) r
theorem BearAll.get {R : World → World → Prop} {T : List Nat} {k0 : Nat} : ∀ (l : List (SP R)) (k i : Nat) (p : SP R), BearAll T k0 k l → l[i]? = some p → (k + i = k0 ∨ ∀ v w w', p.p v w → Only T w w' → p.p v w')
  | [], _, i, p, _, h => by simp at h
  | x :: r, k, 0, p, hs, h => by simp at h; subst h; exact hs.1
  | x :: r, k, i + 1, p, hs, h => by
    have := BearAll.get r (k + 1) i p hs.2 (by simpa using h)
    rwa [show k + 1 + i = k + (i + 1) by omega] at this
theorem wp_region_app {id : Nat} {Q : Exit → Act → World → Prop} {a0 : Act} {w : World} {l : List Oper} (n : Nat) (hm : P.follows .mixedOrders = true) (hB : stabB l.toArray n a0.tmps.size = true)
    (keep : Nat → Bool) (k0 : Nat) (T : List Nat) (Φ : List (SP (Only []))) (hA : BearAll T k0 0 Φ)
    (hs : StepsOK P l.toArray Q n keep (R1C k0) (Only T) (AppRk T k0) (SP.at Φ) a0 w.drew 0 (l.take n))
    (hrest : ∀ us w', Only T w.drew w' → (∀ i o d, i < n → l[i]? = some o → o.dst = some d → keep i = true → SP.at Φ i (us i) w') → wpList P l.toArray Q (l.drop n) (fillAct a0 (l.take n) us 0) w') :
    (Code.region id l.toArray true).wp P Q a0 w :=
  wp_region_stabP n hm hB keep (R1C k0) (Only T) (AppRk T k0) (Only.refl _ _) (fun k => by unfold R1C; split; exact Only.refl _ _; trivial)
    (fun k u v h hk => by
      unfold AppRk at hk
      split at hk
      · exact h.then hk T (fun i hi => .inl hi) (fun i hi => .inl hi)
      · exact h.plus hk)
    (fun k1 k u v hne h hk => by
      unfold R1C at h ⊢
      split
      · rename_i h0
        rw [if_pos h0] at h
        subst h0
        unfold AppRk at hk
        rw [if_neg hne] at hk
        exact h.plus hk
      · trivial) (SP.at Φ)
    (fun k i v w1 w' hk hi hne hneed h hR => by
      unfold AppRk at hR
      split at hR
      · rename_i h0
        unfold SP.at at *
        cases hp : Φ[i]? with
        | none => trivial
        | some p =>
          rw [hp] at h
          rcases BearAll.get Φ 0 i p hA hp with h1 | h1
          · omega
          · exact h1 v w1 w' h hR
      · exact SP.at_st Φ i v w1 w' h hR) hs hrest
end

end Go.Proofs.Ytgkddbpfjbgelaa
