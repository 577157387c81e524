/-
  Stab where a word must bear only what operations do that its own does not wait for; whole rows appended onto rows of one's own.
-/
import Derived.Test.YtildkedplmjdaaaGreatDoorPbE
import Derived.Test.YtildkedplmjdaaaGreatDoorPbI
import Derived.Test.YtildkedplmjdaaaGreatDoorPbM
import Derived.Test.YtildkedplmjdaaaGreatDoorStab
namespace Go.Proofs.YtildkedplmjdaaaGreatDoor
set_option maxRecDepth 100000
set_option linter.unusedVariables false
open Go.RowKit Go.Sort

theorem more_app (m : Nat) : ∀ (a b : List UInt8) (i : Nat), moreM m i (a ++ b) = moreM m i a ++ moreM m (i + a.length) b
  | [], b, i => rfl
  | c :: a, b, i => by
    rw [List.cons_append, moreM, more_app m a b, moreM, List.length_cons, show i + 1 + a.length = i + (a.length + 1) by omega]
    simp
theorem more_len (m : Nat) : ∀ (a : List UInt8) (i : Nat), (moreM m i a).length ≤ 3 * a.length
  | [], i => by simp [moreM]
  | c :: a, i => by
    have := more_len m a (i + 1)
    rw [moreM, List.length_cons, List.length_append, List.length_cons]
    split
    · simp only [List.length_cons, List.length_nil]; omega
    · simp only [List.length_nil]; omega
theorem kok_erase : ∀ (x y : Blk), eraseB x = eraseB y → KOk y → KOk x
  | .nil, y, _, _ => trivial
  | .cons k p n a b r, .nil, h, _ => by simp [eraseB] at h
  | .cons k p n a b r, .cons k' p' n' a' b' r', h, hk => by
    simp only [eraseB, Blk.cons.injEq] at h
    obtain ⟨h1, h2, h3, h4, h5, h6⟩ := h
    exact ⟨by rw [h1]; exact hk.1, kok_erase a a' h4 hk.2.1, kok_erase b b' h5 hk.2.2.1, kok_erase r r' h6 hk.2.2.2⟩
theorem more_ge (m : Nat) : ∀ (a : List UInt8) (i : Nat), a.length ≤ (moreM m i a).length
  | [], i => Nat.zero_le _
  | c :: a, i => by
    have := more_ge m a (i + 1)
    rw [moreM, List.length_cons, List.length_cons, List.length_append]
    omega
/-- What is the same but for places is as good. -/
theorem back_ok {P Q : ProgM} (h : eraseP Q = eraseP P) (hB : ∀ f ∈ P.funcs, BodyOk f) : (∀ f ∈ Q.funcs, BodyOk f) ∧ Q.vars.length = P.vars.length ∧ Q.locks.length = P.locks.length ∧ Q.funcs.length = P.funcs.length := by
  obtain ⟨h4, h5⟩ := erase_funcs h
  have h1 : eraseD Q.vars = eraseD P.vars := congrArg ProgM.vars h
  have h2 : eraseD Q.locks = eraseD P.locks := congrArg ProgM.locks h
  refine ⟨fun f hf => ?_, by simpa [eraseD] using congrArg List.length h1, by simpa [eraseD] using congrArg List.length h2, h4⟩
  obtain ⟨f0, g1, g2, g3⟩ := h5 f hf
  obtain ⟨k1, k2⟩ := hB f0 g1
  exact ⟨by rw [← cnt_erase, g3, cnt_erase]; exact k1, kok_erase f.body f0.body g3 k2⟩

end Go.Proofs.YtildkedplmjdaaaGreatDoor
namespace Go.Proofs.YtildkedplmjdaaaGreatDoor
set_option maxRecDepth 100000
set_option linter.unusedVariables false
open Go.RowKit Go.Sort

def AllFew (a b c d : RawM) : Prop := FewR a ∧ FewR b ∧ FewR c ∧ FewR d
theorem small_prog (m f g h : RawM) (t : Int) : (progR m f g h t).vars.length ≤ 1000 ∧ (progR m f g h t).locks.length ≤ 1000 ∧ (progR m f g h t).funcs.length ≤ 1000 :=
  ⟨by show 3 ≤ 1000; omega, by unfold progR; simp only; split <;> simp, by unfold progR; simp only; split <;> simp⟩

end Go.Proofs.YtildkedplmjdaaaGreatDoor
namespace Go.Proofs.YtildkedplmjdaaaGreatDoor
set_option maxRecDepth 100000
set_option linter.unusedVariables false
open Go.RowKit Go.Sort

end Go.Proofs.YtildkedplmjdaaaGreatDoor
namespace Go.Proofs.YtildkedplmjdaaaGreatDoor
set_option maxRecDepth 100000
set_option linter.unusedVariables false
open Go.RowKit Go.Sort

/-- A program's declarations, and another's behind them. -/
def joinP (P Q : ProgM) : ProgM := ⟨P.vars ++ Q.vars, P.locks ++ Q.locks, P.funcs ++ Q.funcs⟩
theorem join_erase (P Q : ProgM) : eraseP (joinP P Q) = joinP (eraseP P) (eraseP Q) := by simp [joinP, eraseP, eraseD, eraseF]
theorem join_parse (P Q : ProgM) (hP : ∀ x ∈ itemsP P, GoodI x) (hQ : ∀ x ∈ itemsP Q, GoodI x) (hl : (progT P ++ progT Q).length ≤ 2000) :
    ∃ R, parseM (progT P ++ progT Q) = (R, 0, 0) ∧ eraseP R = eraseP (joinP P Q) := by
  have e : progT P ++ progT Q = (itemsP P ++ itemsP Q).flatMap lineI := by rw [List.flatMap_append, ← text_items, ← text_items]
  rw [e] at hl ⊢
  refine ⟨_, parse_items (itemsP P ++ itemsP Q) (fun x hx => ?_) hl, ?_⟩
  · rcases List.mem_append.1 hx with h | h
    · exact hP x h
    · exact hQ x h
  · have h1 := progI_items P
    have h2 := progI_items Q
    rw [erase_new, progI_append, join_erase, ← h1, ← h2]
    rfl

end Go.Proofs.YtildkedplmjdaaaGreatDoor
namespace Go.Proofs.YtildkedplmjdaaaGreatDoor
set_option maxRecDepth 100000
set_option linter.unusedVariables false
open Go.RowKit Go.Sort

section
variable {P : Program}

theorem StabInv.stepQ {ops : Array Oper} {Q : Exit → Act → World → Prop} {n : Nat} {keep : Nat → Bool} {R1 : Nat → World → World → Prop} {R : World → World → Prop} {Rk : Nat → World → World → Prop} {φ : Nat → Value → World → Prop} {a0 a : Act} {w0 w : World} {listed : Array Bool}
    (htr : ∀ k u v, R w0 u → Rk k u v → R w0 v) (htr1 : ∀ k0 k u v, k ≠ k0 → R1 k0 w0 u → Rk k u v → R1 k0 w0 v) (hst : ∀ k i v w w', k < n → i < n → i ≠ k → dep ops i k = false → (keep i = true ∨ ∃ j, j < n ∧ j ≠ k ∧ dep ops j i = true) → φ i v w → Rk k w w' → φ i v w') (hB : dstsB ops n a0.tmps.size = true)
    (hs : StepsOK P ops Q n keep R1 R Rk φ a0 w0 0 (ops.toList.take n)) (inv : StabInv ops n keep R1 R φ a0 w0 listed a w) {i : Nat} (hi : i ∈ Region.ready .any ops listed) (hin : i < n) :
    wpOp P ops Q i (StabInv ops n keep R1 R φ a0 w0 (listed.setIfInBounds i true)) a w := by
  obtain ⟨hun, o, ho, hall⟩ := mem_ready.1 hi
  simp only [dstsB, Bool.and_eq_true, decide_eq_true_eq] at hB
  obtain ⟨hnd, hbd⟩ := hB
  have hol : (ops.toList.take n)[i]? = some o := by rw [List.getElem?_take_of_lt hin]; simpa using ho
  have hlt : i < ops.size := (Array.getElem?_eq_some_iff.1 ho).1
  have hstep := StepsOK.get _ 0 i o hs hol
  rw [Nat.zero_add] at hstep
  have := hstep a w (fun j => listed.getD j false = true) (fun i => keep i = true ∨ ∃ j, j < n ∧ listed.getD j true = false ∧ dep ops j i = true) inv.rel inv.old (fun j o' d hj ho' hd => inv.done j o' d hj ho' hd)
    ⟨(fun j k hj hd => by
      obtain ⟨oj, hoj, e, he, hb, hon⟩ := Region.waitsFor_spec hd
      have := inv.head.closed j oj hoj hj e he hb
      rwa [hon] at this), (fun hli => by rw [getD_both hun] at hli; cases hli), inv.yet, inv.defers, fun k hn => inv.pre k (by simpa using hn)⟩
    (fun _ h => .inl h)
    (fun k hd => by
      refine ⟨?_, .inr ⟨i, hin, hun, hd⟩⟩
      obtain ⟨oj, hoj, e, he, hb, hon⟩ := Region.waitsFor_spec hd
      have e1 : oj = o := Option.some.inj (hoj.symm.trans ho)
      subst e1
      have := hall e he hb
      rwa [hon] at this)
    (StabInv ops n keep R1 R φ a0 w0 (listed.setIfInBounds i true))
    (fun v w' hR hφ => by
      have hdn : ∀ d, o.dst = some d → d < a0.tmps.size := fun d hd => by
        have := List.all_eq_true.1 hbd d (List.mem_filterMap.2 ⟨o, List.mem_of_getElem? hol, hd⟩)
        simpa using this
      refine ⟨inv.head.set hi hin, htr i _ _ inv.rel hR, fun k0 hk0 => ?_, ?_, ?_, fun t ht => ?_, fun t ht => ?_, fun j oj d hj hoj hd => ?_⟩
      · have hlt' : i < listed.size := by rw [inv.head.size]; exact hlt
        by_cases hik : i = k0
        · subst hik; simp [hlt'] at hk0
        · rw [getD_set_ne false hik] at hk0
          exact htr1 k0 i _ _ hik (inv.pre k0 hk0) hR
      · cases hd : o.dst <;> simp [Act.put, inv.size]
      · cases hd : o.dst <;> simp [Act.put, inv.defers]
      · cases hd : o.dst with
        | none => exact inv.old t ht
        | some d =>
          have hne : d ≠ t := fun e => by
            have := List.all_eq_true.1 ht o (List.mem_of_getElem? hol)
            simp [hd, e] at this
          simp only [Act.put]
          rw [Array.getElem?_setIfInBounds_ne hne]
          exact inv.old t ht
      · have hlt' : i < listed.size := by rw [inv.head.size]; exact hlt
        have hi0 : o.dst ≠ some t := ht i o (by simp [hlt']) ho
        have hrec : a.tmps[t]? = a0.tmps[t]? := inv.yet t (fun j o' hj ho' => by
          by_cases hji : i = j
          · subst hji
            exact ht i o' (by simp [hlt']) ho'
          · exact ht j o' (by rw [getD_set_ne false hji]; exact hj) ho')
        cases hd : o.dst with
        | none => exact hrec
        | some d =>
          have hne : d ≠ t := fun e => hi0 (by rw [hd, e])
          simp only [Act.put]
          rw [Array.getElem?_setIfInBounds_ne hne]
          exact hrec
      · by_cases hji : i = j
        · subst hji
          have e1 : oj = o := Option.some.inj (hoj.symm.trans ho)
          subst e1
          refine ⟨v, ?_, fun _ => hφ⟩
          rw [hd]
          simp only [Act.put]
          have := hdn d hd
          rw [Array.getElem?_setIfInBounds_self_of_lt (by rw [inv.size]; exact this)]
        · rw [getD_set_ne false hji] at hj
          obtain ⟨u, hu, hφu⟩ := inv.done j oj d hj hoj hd
          have hjn : j < n := by
            rcases Nat.lt_or_ge j n with h | h
            · exact h
            · have h1 := inv.head.tail j h (Array.getElem?_eq_some_iff.1 hoj).1
              rw [getD_both h1] at hj; cases hj
          refine ⟨u, ?_, fun hneed => ?_⟩
          rotate_left
          have hfree : dep ops j i = false := by
            cases hdj : dep ops j i with
            | false => rfl
            | true =>
              obtain ⟨ok, hok, e, he, hb, hon⟩ := Region.waitsFor_spec hdj
              have hcl := inv.head.closed j ok hok hj e he hb
              rw [hon, getD_both hun] at hcl
              cases hcl
          · rcases hneed with hk | ⟨x, hxn, hx, hxd⟩
            · exact hst i j _ _ _ hin hjn (Ne.symm hji) hfree (.inl hk) (hφu (.inl hk)) hR
            · have hxi : x ≠ i := fun e => by
                subst e
                have : x < listed.size := by rw [inv.head.size]; exact hlt
                simp [this] at hx
              rw [getD_set_ne true (Ne.symm hxi)] at hx
              exact hst i j _ _ _ hin hjn (Ne.symm hji) hfree (.inr ⟨x, hxn, hxi, hxd⟩) (hφu (.inr ⟨x, hxn, hx, hxd⟩)) hR
          cases hd' : o.dst with
          | none => exact hu
          | some d' =>
            have hojl : (ops.toList.take n)[j]? = some oj := by rw [List.getElem?_take_of_lt hjn]; simpa using hoj
            have hne : d' ≠ d := fun e => by
              subst e
              exact hji (nodup_dst _ hnd i j o oj d' hol hojl hd' hd)
            simp only [Act.put]
            rw [Array.getElem?_setIfInBounds_ne hne]
            exact hu)
  unfold wpOp
  simp only [ho]
  split at this
  · rename_i hw; simp only [hw, if_true]; exact .inl this
  · rename_i hw; simp only [hw]; exact this

theorem stab_anyQ {ops : Array Oper} {Q : Exit → Act → World → Prop} {n g : Nat} {keep : Nat → Bool} {R1 : Nat → World → World → Prop} {R : World → World → Prop} {Rk : Nat → World → World → Prop} {φ : Nat → Value → World → Prop} {a0 : Act} {w0 : World}
    (htr : ∀ k u v, R w0 u → Rk k u v → R w0 v) (htr1 : ∀ k0 k u v, k ≠ k0 → R1 k0 w0 u → Rk k u v → R1 k0 w0 v) (hst : ∀ k i v w w', k < n → i < n → i ≠ k → dep ops i k = false → (keep i = true ∨ ∃ j, j < n ∧ j ≠ k ∧ dep ops j i = true) → φ i v w → Rk k w w' → φ i v w') (hB : dstsB ops n a0.tmps.size = true) (hn : n ≤ ops.size)
    (hs : StepsOK P ops Q n keep R1 R Rk φ a0 w0 0 (ops.toList.take n))
    (hhead : ∀ listed, HeadInv .any ops n listed → ∀ i, i < n → listed.getD i true = false → (∃ k, k < n ∧ k ∈ Region.ready .any ops listed) ∧ ∀ t, n ≤ t → t ∉ Region.ready .any ops listed)
    (hend : ∀ listed a w, StabInv ops n keep R1 R φ a0 w0 listed a w → (∀ i, i < n → listed.getD i false = true) → wpAny P .any ops Q g listed a w) :
    ∀ (f : Nat) (listed : Array Bool) (a : Act) (w : World), ((List.range n).filter fun i => !listed.getD i true).length = f → StabInv ops n keep R1 R φ a0 w0 listed a w → wpAny P .any ops Q (f + g) listed a w := by
  intro f
  induction f with
  | zero =>
    intro listed a w hf inv
    rw [Nat.zero_add]
    refine hend listed a w inv fun i hi => ?_
    have h0 := List.filter_eq_nil_iff.1 (List.length_eq_zero_iff.1 hf) i (List.mem_range.2 hi)
    have hlt : i < listed.size := by rw [inv.head.size]; omega
    simp [hlt] at h0 ⊢
    exact h0
  | succ f ih =>
    intro listed a w hf inv
    have hex : ∃ i, i < n ∧ listed.getD i true = false := by
      cases hl : (List.range n).filter fun i => !listed.getD i true with
      | nil => rw [hl] at hf; simp at hf
      | cons x r =>
        have hx : x ∈ (List.range n).filter fun i => !listed.getD i true := by rw [hl]; simp
        obtain ⟨h1, h2⟩ := List.mem_filter.1 hx
        exact ⟨x, List.mem_range.1 h1, by simpa using h2⟩
    obtain ⟨i0, hi0, hun0⟩ := hex
    obtain ⟨⟨k, hk, hkr⟩, hno⟩ := hhead listed inv.head i0 hi0 hun0
    rw [show f + 1 + g = (f + g) + 1 by omega]
    refine ⟨fun h => (by rw [h] at hkr; cases hkr), fun i hi => ?_⟩
    have hin : i < n := by
      rcases Nat.lt_or_ge i n with h | h
      · exact h
      · exact absurd hi (hno i h)
    refine wpOp_mono (fun a' w' inv' => ih _ a' w' ?_ inv') (inv.stepQ htr htr1 hst hB hs hi hin)
    have hun := (mem_ready.1 hi).1
    have hlt : i < listed.size := by rw [inv.head.size]; omega
    have hcount : ∀ (l : List Nat), l.Nodup → i ∈ l → (l.filter fun j => !listed.getD j true).length = (l.filter fun j => !(listed.setIfInBounds i true).getD j true).length + 1 := by
      intro l
      induction l with
      | nil => intro _ h; cases h
      | cons x r ihl =>
        intro hnd hm
        obtain ⟨hx, hr⟩ := List.nodup_cons.1 hnd
        by_cases hxi : x = i
        · subst hxi
          have hsame : (r.filter fun j => !listed.getD j true) = (r.filter fun j => !(listed.setIfInBounds x true).getD j true) := by
            refine List.filter_congr fun j hj => ?_
            have : x ≠ j := fun e => hx (e ▸ hj)
            rw [getD_set_ne true this]
          rw [List.filter_cons_of_pos (by simp only [hun]; rfl), List.filter_cons_of_neg (by simp [hlt]), hsame]
          rfl
        · have hm' : i ∈ r := by
            rcases List.mem_cons.1 hm with e | e
            · exact absurd e.symm hxi
            · exact e
          have hg := getD_set_ne (listed := listed) true (i := i) (j := x) (Ne.symm hxi)
          cases hv : listed.getD x true with
          | true => rw [List.filter_cons_of_neg (by rw [hv]; simp), List.filter_cons_of_neg (by rw [hg, hv]; simp)]; exact ihl hr hm'
          | false => rw [List.filter_cons_of_pos (by rw [hv]; rfl), List.filter_cons_of_pos (by rw [hg, hv]; rfl), List.length_cons, List.length_cons, ihl hr hm']
    have := hcount (List.range n) List.nodup_range (List.mem_range.2 hin)
    omega

theorem wp_region_stabQ {id : Nat} {Q : Exit → Act → World → Prop} {a0 : Act} {w : World} {l : List Oper} (n : Nat) (hm : P.follows .mixedOrders = true) (hB : stabB l.toArray n a0.tmps.size = true)
    (keep : Nat → Bool) (R1 : Nat → World → World → Prop) (R : World → World → Prop) (Rk : Nat → World → World → Prop) (hrefl : R w.drew w.drew) (hrefl1 : ∀ k, R1 k w.drew w.drew) (htr : ∀ k u v, R w.drew u → Rk k u v → R w.drew v) (htr1 : ∀ k0 k u v, k ≠ k0 → R1 k0 w.drew u → Rk k u v → R1 k0 w.drew v) (φ : Nat → Value → World → Prop)
    (hst : ∀ k i v w w', k < n → i < n → i ≠ k → dep l.toArray i k = false → (keep i = true ∨ ∃ j, j < n ∧ j ≠ k ∧ dep l.toArray j i = true) → φ i v w → Rk k w w' → φ i v w')
    (hs : StepsOK P l.toArray Q n keep R1 R Rk φ a0 w.drew 0 (l.take n))
    (hrest : ∀ us w', R w.drew w' → (∀ i o d, i < n → l[i]? = some o → o.dst = some d → keep i = true → φ i (us i) w') → wpList P l.toArray Q (l.drop n) (fillAct a0 (l.take n) us 0) w') :
    (Code.region id l.toArray true).wp P Q a0 w := by
  simp only [stabB, Bool.and_eq_true, Bool.or_eq_true, decide_eq_true_eq] at hB
  obtain ⟨⟨hd, hb⟩, htail⟩ := hB
  have hn : n ≤ l.toArray.size := by
    rcases htail with h | h
    · omega
    · omega
  refine wp_region_any hm ?_
  have hdl : (l.drop n).length = l.toArray.size - n := by simp
  have inv0 : HeadInv .any l.toArray n (Array.replicate l.toArray.size false) :=
    ⟨by simp, fun j oj _ hl => (by rw [getD_replicate_false] at hl; cases hl), fun t _ ht => getD_in (by simpa using ht) (getD_replicate_false _ _)⟩
  have H := stab_anyQ (P := P) (ops := l.toArray) (Q := Q) (n := n) (g := l.toArray.size - n) (keep := keep) (R1 := R1) (R := R) (Rk := Rk) (φ := φ) (a0 := a0) (w0 := w.drew) htr htr1 hst hd hn (by simpa using hs)
    (fun listed inv i hi hun => ⟨back_ready hb hn inv i hi hun, fun t ht => by
      rcases htail with h | ⟨⟨⟨h, h1⟩, h2⟩, h3⟩
      · intro hr
        obtain ⟨_, o, ho, _⟩ := mem_ready.1 hr
        have := (Array.getElem?_eq_some_iff.1 ho).1
        omega
      · exact tail_waits h1 h2 h inv _ i rfl hi hun t ht⟩)
    (fun listed a w' inv hall => by
      obtain ⟨us, rfl, hus⟩ := inv.fill hd hn hall
      have hW := hrest us w' inv.rel (fun i o d hi ho hd hk => hus i o d hi (by simpa using ho) hd hk)
      have hlisted : listed = (Array.replicate n true) ++ (Array.replicate (l.toArray.size - n) false) := by
        have hsz := inv.head.size
        apply Array.ext_getElem?
        intro t
        rcases Nat.lt_or_ge t n with h | h
        · have h1 := hall t h
          have hlt : t < listed.size := by rw [hsz]; omega
          simp [hlt] at h1
          rw [Array.getElem?_eq_getElem hlt, h1, Array.getElem?_append_left (by simpa using h)]
          simp [h]
        · rcases Nat.lt_or_ge t l.toArray.size with h' | h'
          · have h1 := inv.head.tail t h h'
            have hlt : t < listed.size := by rw [hsz]; omega
            simp [hlt] at h1
            rw [Array.getElem?_eq_getElem hlt, h1, Array.getElem?_append_right (by simpa using h), Array.getElem?_replicate, if_pos (by simp at h' ⊢; omega)]
          · rw [Array.getElem?_eq_none (by rw [hsz]; exact h'), Array.getElem?_eq_none (by simp at h' ⊢; omega)]
      have hseq : Region.seqB .any l.toArray (l.toArray.size - n) n listed = true := by
        rcases htail with h | ⟨_, h3⟩
        · have h0 : l.toArray.size - n = 0 := by omega
          rw [h0]
          simp only [Region.seqB, List.isEmpty_iff]
          cases hr : Region.ready .any l.toArray listed with
          | nil => rfl
          | cons x r =>
            have hx : x ∈ Region.ready .any l.toArray listed := by rw [hr]; simp
            obtain ⟨hun, o, ho, _⟩ := mem_ready.1 hx
            have hxl := (Array.getElem?_eq_some_iff.1 ho).1
            have := hall x (by omega)
            rw [getD_both hun] at this
            cases this
        · rw [hlisted]; exact h3
      have := wpAny_of_seq (P := P) (md := .any) (ops := l.toArray) (Q' := Q) (l.drop n) n listed _ w' (fun j => by simp [List.getElem?_drop]) (by rw [hdl]; exact hseq) hW
      rwa [hdl] at this)
  have hcount : ((List.range n).filter fun i => !(Array.replicate l.toArray.size false).getD i true).length = n := by
    rw [List.filter_eq_self.2 (fun i hi => by
      have := List.mem_range.1 hi
      simp at hn
      simp [show i < l.length by omega]), List.length_range]
  have := H n (Array.replicate l.toArray.size false) a0 _ hcount ⟨inv0, hrefl, fun k _ => hrefl1 k, rfl, rfl, fun _ _ => rfl, fun _ _ => rfl, fun i o d h => by rw [getD_replicate_false] at h; cases h⟩
  rw [show n + (l.toArray.size - n) = l.toArray.size by omega] at this
  exact this


end

/-- A block that begins with this cell may be turned. -/
def TagRk (base : Nat) (x : Value) (w w' : World) : Prop := ∃ g, Only [g] w w' ∧ base ≤ g ∧ w.cell? ⟨g, 0, none⟩ = some x
def RkT (base : Nat) (T : Nat → Option Value) (k : Nat) : World → World → Prop := match T k with
  | some x => TagRk base x
  | none => Only []
theorem RkT.only {base : Nat} {T : Nat → Option Value} {w u v : World} (k : Nat) (h0 : base ≤ w.heap.size) (hb : w.heap.size ≤ base) (h : Only [] w u) (hk : RkT base T k u v) : Only [] w v := by
  unfold RkT at hk
  cases hT : T k with
  | some x =>
    rw [hT] at hk
    obtain ⟨g, h1, h2, -⟩ := hk
    exact h.then h1 [] (by simp) (fun i hi => .inr (by simp only [List.mem_singleton] at hi; omega))
  | none => rw [hT] at hk; exact h.plus hk
theorem own_first {w : World} {base s n : Nat} {e : TypeId} {v x : Value} {xs : List Value} (h : w.ownsRow base e s v n (x :: xs)) : ∃ g, v.ownBlock = some g ∧ base ≤ g ∧ g < w.heap.size ∧ w.cell? ⟨g, 0, none⟩ = some x := by
  have h0 := h
  rcases h.2 with ⟨rfl, h1⟩ | ⟨g, cap, cur, rfl, hb, hg, hc, _⟩
  · have := h.1; simp [h1] at this
  · refine ⟨g, rfl, hb, IsBlk.lt hg, ?_⟩
    have := World.ownsRow.cells h0 (g := g) rfl 0 x rfl
    rw [Addr.add_mid] at this
    exact this
/-- The word: a row of one's own, which begins with x. -/
def OwnSP (base : Nat) (e : TypeId) (s n : Nat) (x : Value) (xs : List Value) : SP (Only []) := ⟨fun v w => w.ownsRow base e s v n (x :: xs), fun _ _ _ h hO => owns_keep h hO (by simp)⟩
theorem own_tag {base : Nat} {e : TypeId} {s n : Nat} {x y : Value} {xs : List Value} {v : Value} {w w' : World} (hne : x ≠ y) (h : w.ownsRow base e s v n (x :: xs)) (hR : TagRk base y w w') : w'.ownsRow base e s v n (x :: xs) := by
  obtain ⟨g, hO, hb, hc⟩ := hR
  obtain ⟨g', h1, h2, h3, h4⟩ := own_first h
  have hgg : g' ≠ g := fun e => by
    subst e
    rw [h4] at hc
    exact hne (Option.some.inj hc)
  refine owns_apart (u := .slice (some ⟨g, 0, none⟩) 0 0) h hO (fun k hk => ?_)
  rw [h1] at hk
  injection hk with hk
  subst hk
  intro e
  simp [Value.ownBlock] at e
  exact hgg e.symm
/-- The row that it makes room in. -/
theorem tag_of {base : Nat} {e : TypeId} {s n : Nat} {x : Value} {xs : List Value} {v : Value} {w w' : World} (h : w.ownsRow base e s v n (x :: xs)) (hO : Only (ownL v) w w') : TagRk base x w w' := by
  obtain ⟨g, h1, h2, h3, h4⟩ := own_first h
  refine ⟨g, ?_, h2, h4⟩
  unfold ownL at hO
  rw [h1] at hO
  exact hO

def exemptB (ops : Array Oper) (n : Nat) (keep : Nat → Bool) (k0 i : Nat) : Bool := i == k0 || dep ops i k0 || (!keep i && (List.range n).all fun j => !dep ops j i || j == k0)
def AllTag {R : World → World → Prop} (ops : Array Oper) (n : Nat) (keep : Nat → Bool) (k0 : Nat) (R0 : World → World → Prop) : Nat → List (SP R) → Prop
  | _, [] => True
  | i, p :: r => (exemptB ops n keep k0 i = true ∨ Bears R0 p) ∧ AllTag ops n keep k0 R0 (i + 1) r
theorem AllTag.get {R : World → World → Prop} {ops : Array Oper} {n : Nat} {keep : Nat → Bool} {k0 : Nat} {R0 : World → World → Prop} : ∀ (l : List (SP R)) (k i : Nat) (p : SP R), AllTag ops n keep k0 R0 k l → l[i]? = some p → (exemptB ops n keep k0 (k + i) = true ∨ Bears R0 p)
  | [], _, i, p, _, h => by simp at h
  | x :: r, k, 0, p, hs, h => by simp at h; subst h; exact hs.1
  | x :: r, k, i + 1, p, hs, h => by
    have := AllTag.get r (k + 1) i p hs.2 (by simpa using h)
    rwa [show k + 1 + i = k + (i + 1) by omega] at this
theorem AllTag.st {R : World → World → Prop} {ops : Array Oper} {n : Nat} {keep : Nat → Bool} {k0 : Nat} {R0 : World → World → Prop} {Φ : List (SP R)} (h : AllTag ops n keep k0 R0 0 Φ) :
    ∀ i v w w', i < n → i ≠ k0 → dep ops i k0 = false → (keep i = true ∨ ∃ j, j < n ∧ j ≠ k0 ∧ dep ops j i = true) → SP.at Φ i v w → R0 w w' → SP.at Φ i v w' := by
  intro i v w w' _ hne hfree hneed hat hR
  unfold SP.at at *
  cases hp : Φ[i]? with
  | none => trivial
  | some p =>
    rw [hp] at hat
    have := AllTag.get Φ 0 i p h hp
    rw [Nat.zero_add] at this
    rcases this with h1 | h1
    · unfold exemptB at h1
      simp only [Bool.or_eq_true, Bool.and_eq_true, Bool.not_eq_true', beq_iff_eq] at h1
      rcases h1 with (h1 | h1) | ⟨h1, h2⟩
      · exact absurd h1 hne
      · rw [hfree] at h1; cases h1
      · rcases hneed with h3 | ⟨j, hjn, hj, hd⟩
        · rw [h1] at h3; cases h3
        · have := List.all_eq_true.1 h2 j (List.mem_range.2 hjn)
          rw [hd] at this
          simp at this
          exact absurd this hj
    · exact h1 v w w' hat hR

/-- append(new empty row, v...): a new row. -/
theorem wp_append_fresh {w : World} {o : Oper} {a : Act} {K : Act → World → Prop} {Q : Exit → Act → World → Prop} (s x : Operand) (t e : TypeId) (i : TypeInfo) (z : Value) (size bytes : Nat)
    (ho : o.op = .call { callee := .builtin .append, args := #[s, x], argTypes := #[t, t] }) (ht : Tryz.prog.underlying t = some (.slice e)) (hi : Tryz.prog.info? e = some i) (hz : i.zero = some z)
    (hsize : i.size = size) (hby : i.bytes = bytes) (hzs : z.cells.size = size)
    (g : Nat) (hs : a.eval s = .slice (some ⟨g, 0, none⟩) 0 0) (ad : Addr) (m c : Nat) (news : List Value) (hx : a.eval x = .slice (some ad) m c) (hl : news.length = m * size) (hnews : ∀ j u, news[j]? = some u → w.cell? (ad.add j) = some u)
    (hm : 0 < m) (h63 : m ≤ maxLen) (hbytes : m * bytes ≤ 140737488355328) (base : Nat) (hbase : base ≤ w.heap.size)
    (h : ∀ v' w', w'.ownsRow base e size v' m news → Only [] w w' → K (a.put o.dst v') w') : o.wp Tryz.prog a w K Q := by
  subst hsize hby
  have hr := run_append_grow (P := Tryz.prog) w t o.type e i z ht hi hz ⟨g, 0, none⟩ 0 0 [] (by simp) (by simp) ad m c news hl hnews (by omega) (by unfold maxLen at h63; omega) (growslice_fits (by omega) (by simpa using hbytes))
  simp only [Nat.zero_add] at hr
  unfold Oper.wp execOp
  simp only [ho, resolve, invoke, builtin, Sem.run_bind, Sem.run_pure, Result.andThen_ok, List.map_toArray, List.map_cons, List.map_nil, hs, hx, hr]
  have hge := grownCap_ge w m 0 e
  refine h _ _ ⟨hl, .inr ⟨w.heap.size, _, _, rfl, hbase, heap_alloc_new w.drew _, hge, grownCap_le_maxLen w m 0 e h63, ?_, ?_⟩⟩ (((Only.refl _ _).drew).alloc _)
  · simp only [Array.size_append, List.size_toArray, size_zeroCells, hzs, hl, List.length_nil, Nat.zero_add, ← Nat.add_mul]
    congr 1
    omega
  · simp only [Array.toList_append, List.nil_append]
    rw [← hl]
    exact List.take_left
/-- append(row of one's own, v...). -/
theorem wp_append_row {w : World} {o : Oper} {a : Act} {K : Act → World → Prop} {Q : Exit → Act → World → Prop} (s x : Operand) (t e : TypeId) (i : TypeInfo) (z : Value) (size bytes : Nat)
    (ho : o.op = .call { callee := .builtin .append, args := #[s, x], argTypes := #[t, t] }) (ht : Tryz.prog.underlying t = some (.slice e)) (hi : Tryz.prog.info? e = some i) (hz : i.zero = some z)
    (hsize : i.size = size) (hby : i.bytes = bytes) (hzs : z.cells.size = size) (hsz : 0 < size)
    (base : Nat) (v : Value) (n : Nat) (xs : List Value) (hs : a.eval s = v) (hown : w.ownsRow base e size v n xs) (ad : Addr) (m c : Nat) (news : List Value) (hx : a.eval x = .slice (some ad) m c) (hl : news.length = m * size) (hnews : ∀ j u, news[j]? = some u → w.cell? (ad.add j) = some u)
    (h1 : ∀ u ∈ news, u.oneCell' = true) (h63 : n + m ≤ maxLen) (hbytes : (n + m) * bytes ≤ 140737488355328) (hbase : base ≤ w.heap.size)
    (h : ∀ v' w', w'.ownsRow base e size v' (n + m) (xs ++ news) → Only (ownL v) w w' → K (a.put o.dst v') w') : o.wp Tryz.prog a w K Q := by
  obtain ⟨v', w', hr, k2, k3, k4, k5⟩ := run_append_own_at (P := Tryz.prog) w base t o.type e i z size bytes ht hi hz hsize hby hzs hsz v n xs hown ad m c news hl hnews h1 h63 hbytes hbase
  unfold Oper.wp execOp
  simp only [ho, resolve, invoke, builtin, Sem.run_bind, Sem.run_pure, Result.andThen_ok, List.map_toArray, List.map_cons, List.map_nil, hs, hx, hr]
  exact h v' w' k2 (grown_only k3)

theorem dcells_one (l : List DeclM) : ∀ u ∈ dcells l, u.oneCell' = true := by
  intro u hu
  obtain ⟨d, -, hd⟩ := List.mem_flatMap.1 hu
  simp only [List.mem_cons, List.not_mem_nil, or_false] at hd
  rcases hd with rfl | rfl <;> rfl
theorem EncF.one {w : World} : ∀ {l : List FuncM} {xs : List Value} {fp : List Nat}, EncF w l xs fp → ∀ u ∈ xs, u.oneCell' = true
  | [], xs, fp, h => by rw [h.1]; simp
  | f :: r, xs, fp, h => by
    obtain ⟨va, fa, fr, xr, rfl, rfl, h1, _, h3⟩ := h
    intro u hu
    simp only [List.mem_cons] at hu
    rcases hu with rfl | rfl | rfl | hu
    · rfl
    · rfl
    · exact RowE.one h1
    · exact EncF.one h3 u hu
theorem EncF.app {w : World} : ∀ {l m : List FuncM} {xs ys : List Value} {fp fq : List Nat}, EncF w l xs fp → EncF w m ys fq → EncF w (l ++ m) (xs ++ ys) (fp ++ fq)
  | [], m, xs, ys, fp, fq, h, k => by obtain ⟨rfl, rfl⟩ := h; exact k
  | f :: r, m, xs, ys, fp, fq, h, k => by
    obtain ⟨va, fa, fr, xr, rfl, rfl, h1, hn, h3⟩ := h
    exact ⟨va, fa, fr ++ fq, xr ++ ys, by simp, by simp, h1, hn, EncF.app h3 k⟩

theorem RkT.none_ {base : Nat} {T : Nat → Option Value} {k : Nat} {u v : World} (h : T k = none) (hO : Only [] u v) : RkT base T k u v := by unfold RkT; rw [h]; exact hO
theorem RkT.some_ {base : Nat} {T : Nat → Option Value} {k : Nat} {u v : World} {x : Value} (h : T k = some x) (hO : TagRk base x u v) : RkT base T k u v := by unfold RkT; rw [h]; exact hO
/-- Some operations turn blocks that begin with their cell. -/
theorem wp_region_tag {P : Program} {id : Nat} {Q : Exit → Act → World → Prop} {a0 : Act} {w : World} {l : List Oper} (n : Nat) (hm : P.follows .mixedOrders = true) (hB : stabB l.toArray n a0.tmps.size = true)
    (keep : Nat → Bool) (T : Nat → Option Value) (Φ : List (SP (Only []))) (hA : ∀ k x, T k = some x → AllTag l.toArray n keep k (TagRk w.heap.size x) 0 Φ)
    (hs : StepsOK P l.toArray Q n keep (fun _ _ _ => True) (Only []) (RkT w.heap.size T) (SP.at Φ) a0 w.drew 0 (l.take n))
    (hrest : ∀ us w', Only [] w.drew w' → (∀ i o d, i < n → l[i]? = some o → o.dst = some d → keep i = true → SP.at Φ i (us i) w') → wpList P l.toArray Q (l.drop n) (fillAct a0 (l.take n) us 0) w') :
    (Code.region id l.toArray true).wp P Q a0 w :=
  wp_region_stabQ n hm hB keep (fun _ _ _ => True) (Only []) (RkT w.heap.size T) (Only.refl _ _) (fun _ => trivial) (fun k u v h hk => RkT.only k (Nat.le_refl _) (Nat.le_refl _) h hk) (fun _ _ _ _ _ _ _ => trivial) (SP.at Φ)
    (fun k i v u u' hk hi hne hdep hneed h hR => by
      cases hT : T k with
      | none => unfold RkT at hR; rw [hT] at hR; exact SP.at_st Φ i v u u' h hR
      | some x => unfold RkT at hR; rw [hT] at hR; exact (hA k x hT).st i v u u' hi hne hdep hneed h hR) hs hrest

end Go.Proofs.YtildkedplmjdaaaGreatDoor
