/-
  The document's led: all that edges lead to from a name.
-/
import Derived.Test.YtgkddbpfjbgelaaGrR
import Derived.Deep.LoopGhost
namespace Go.Proofs.Ytgkddbpfjbgelaa
set_option maxRecDepth 100000
set_option linter.unusedVariables false
open Go.RowKit Go.Sort Go.Maps

/-- What edges lead to, by names. -/
inductive RchN (E : List (Nam × Nam)) : Nam → Nam → Prop
  | refl (a : Nam) : RchN E a a
  | step {a b c : Nam} : (a, b) ∈ E → RchN E b c → RchN E a c
theorem RchN.snoc {E : List (Nam × Nam)} {a b c : Nam} (h : RchN E a b) (k : (b, c) ∈ E) : RchN E a c := by
  induction h with
  | refl => exact .step k (.refl _)
  | step h1 _ ih => exact .step h1 (ih k)
theorem RchN.closed {E : List (Nam × Nam)} {a b : Nam} (h : RchN E a b) {L : List Nam} (hL : ∀ e ∈ E, e.1 ∈ L → e.2 ∈ L) (ha : a ∈ L) : b ∈ L := by
  induction h with
  | refl => exact ha
  | step h1 _ ih => exact ih (hL _ h1 ha)
theorem nodup_sub {α : Type} [DecidableEq α] : ∀ (l m : List α), l.Nodup → (∀ x ∈ l, x ∈ m) → l.length ≤ m.length
  | [], m, _, _ => by simp
  | x :: r, m, hn, h => by
    have h1 := List.nodup_cons.1 hn
    have h2 := nodup_sub r (m.erase x) h1.2 (fun y hy => (List.mem_erase_of_ne (fun e => by subst e; exact h1.1 hy)).2 (h y (by simp [hy])))
    have h3 := List.length_erase_of_mem (h x (by simp))
    have h4 := List.length_pos_of_mem (h x (by simp))
    simp only [List.length_cons]
    omega

/-- What is known of names that were led to. -/
structure LedI (E : List (Nam × Nam)) (s : Nam) (L : List Nam) : Prop where
  nod : L.Nodup
  sub : ∀ t ∈ L, t ∈ s :: E.map (·.2)
  rch : ∀ t ∈ L, RchN E s t
  fst : s ∈ L
theorem LedI.few {E : List (Nam × Nam)} {s : Nam} {L : List Nam} (h : LedI E s L) : L.length ≤ E.length + 1 := by
  have := nodup_sub L (s :: E.map (·.2)) h.nod h.sub
  simpa using this
theorem LedI.more {E : List (Nam × Nam)} {s : Nam} {L : List Nam} (h : LedI E s L) {e : Nam × Nam} (he : e ∈ E) (h1 : e.1 ∈ L) (h2 : e.2 ∉ L) : LedI E s (L ++ [e.2]) := by
  refine ⟨List.nodup_append.2 ⟨h.nod, by simp, fun a ha b hb e => by simp at hb; subst hb; subst e; exact h2 ha⟩, fun t ht => ?_, fun t ht => ?_, List.mem_append_left _ h.fst⟩
  · rcases List.mem_append.1 ht with ht | ht
    · exact h.sub t ht
    · simp at ht; subst ht; exact List.mem_cons_of_mem _ (List.mem_map.2 ⟨e, he, rfl⟩)
  · rcases List.mem_append.1 ht with ht | ht
    · exact h.rch t ht
    · simp at ht; subst ht; exact (h.rch _ h1).snoc he

/-- Nothing more is led to, or there was something new. -/
def ClI (E : List (Nam × Nam)) (L : List Nam) (ag : Bool) : Prop := ag = true ∨ ∀ e ∈ E, e.1 ∈ L → e.2 ∈ L
/-- The first k edges lead to nothing new, or there was something new. -/
def NoI (E : List (Nam × Nam)) (L L2 : List Nam) (k : Nat) (ag : Bool) : Prop := (ag = true ∧ L.length < L2.length) ∨ (ag = false ∧ L2 = L ∧ ∀ (i : Nat) (e : Nam × Nam), i < k → E[i]? = some e → e.1 ∈ L → e.2 ∈ L)
theorem NoI.next {E : List (Nam × Nam)} {L L2 : List Nam} {k : Nat} {ag : Bool} (h : NoI E L L2 k ag) {x : Nam × Nam} (hx : E[k]? = some x) (hs : x.1 ∈ L2 → x.2 ∈ L2) : NoI E L L2 (k + 1) ag := by
  rcases h with h | ⟨h1, rfl, h3⟩
  · exact .inl h
  · refine .inr ⟨h1, rfl, fun i e hi he hm => ?_⟩
    by_cases hik : i = k
    · subst hik
      rw [hx] at he
      injection he with he
      subst he
      exact hs hm
    · exact h3 i e (by omega) he hm
theorem NoI.more {E : List (Nam × Nam)} {L L2 : List Nam} {k : Nat} {ag : Bool} (h : NoI E L L2 k ag) (x : Nam) : NoI E L (L2 ++ [x]) (k + 1) true := by
  refine .inl ⟨rfl, ?_⟩
  rw [List.length_append, List.length_singleton]
  rcases h with h | ⟨h1, rfl, h3⟩
  · omega
  · omega

def LedTo (w : World) (E : List (Nam × Nam)) (s : Nam) (r : Ending) (w' : World) : Prop := ∃ v L, r = .returned v ∧ OwnN w' w.heap.size v L ∧ (∀ t, t ∈ L ↔ RchN E s t) ∧ L.length ≤ E.length + 1 ∧ Only [] w w'

set_option maxHeartbeats 16000000 in
theorem led8_any (w : World) (v : Value) (E : List (Nam × Nam)) (s : Nam) (hE : EdgesAt w v E) (hl : E.length ≤ 10000) : Calls Try.prog 32 #[encStr s, v] w (LedTo w E s) := by
  obtain ⟨a, c, rfl, hE'⟩ := hE
  have HE := Lib.hid hE'
  clear hE'
  unfold encStr
  go_enter Try.func32, Try.ntmps32
  go_wp2_with fail
  have hO1 : Only [] w (w.alloc (.cells #[.string ⟨s.toArray⟩] 9)) := (Only.refl _ _).alloc _
  have hr1 : OwnN (w.alloc (.cells #[.string ⟨s.toArray⟩] 9)) w.heap.size (.slice (some ⟨w.heap.size, 0, none⟩) 1 1) [s] := World.ownsRow_lit w #[.string ⟨s.toArray⟩] 1 (Nat.le_refl _) (by unfold maxLen; omega) rfl
  generalize hW : w.alloc (.cells #[.string ⟨s.toArray⟩] 9) = w1 at *
  clear hW
  have HO1 := Lib.hid hO1
  have Hr1 := Lib.hid hr1
  clear hO1 hr1
  go_loopg [5, 6] (2 * (E.length + 2 - 1) + 1) (fun gk s5 s6 wr => ∃ L ag, s6 = .bool ag ∧ gk = 2 * (E.length + 2 - L.length) + (if ag = true then 1 else 0) ∧ OwnN wr w.heap.size s5 L ∧ LedI E s L ∧ ClI E L ag ∧ Only [] w wr)
  case atStart => exact ⟨[s], true, rfl, rfl, Hr1.out, ⟨by simp, by simp, fun t ht => by simp at ht; subst ht; exact .refl _, by simp⟩, .inl rfl, HO1.out⟩
  case round =>
    obtain ⟨L, ag, rfl, rfl, how, hI, hcl, hO⟩ := hrel
    have How := Lib.hid how
    have HI := Lib.hid hI
    have Hcl := Lib.hid hcl
    have HO := Lib.hid hO
    clear how hI hcl hO
    cases ag with
    | false =>
      go_wp2
      go_ret
      exact ⟨_, L, rfl, How.out, fun t => ⟨HI.out.rch t, fun h => h.closed (Hcl.out.resolve_left (by simp)) HI.out.fst⟩, HI.out.few, HO.out⟩
    | true =>
      have hfw := HI.out.few
      go_wp2_with fail
      generalize hw2 : wr = w2 at *
      clear hw2
      go_loopw [5, 6, 7] (fun s5 s6 iv wq => ∃ k : Nat, iv = .int .i64 k ∧ k ≤ E.length ∧ ∃ L2 ag2, s6 = .bool ag2 ∧ OwnN wq w.heap.size s5 L2 ∧ LedI E s L2 ∧ NoI E L L2 k ag2 ∧ Only [] w wq) (fun _ _ iv _ => E.length - (intOf iv).toNat)
      case atStart => exact ⟨0, rfl, Nat.zero_le _, L, false, rfl, How.out, HI.out, .inr ⟨rfl, rfl, fun i e hi => by omega⟩, HO.out⟩
      case round =>
        obtain ⟨k, rfl, hk, L2, ag2, rfl, how2, hI2, hno, hO2⟩ := hrel
        have How2 := Lib.hid how2
        have HI2 := Lib.hid hI2
        have Hno := Lib.hid hno
        have HO2 := Lib.hid hO2
        clear how2 hI2 hno hO2
        have hfw2 := HI2.out.few
        by_cases hlt : k < E.length
        · have hki : (k : Int) < (E.length : Int) := by omega
          have hk0 : (0 : Int) ≤ (k : Int) := by omega
          obtain ⟨x, hx⟩ : ∃ x, E[k]? = some x := ⟨E[k], by simp [hlt]⟩
          obtain ⟨g, rfl, hg, h1, h2⟩ := HE.out k x hx
          have d1 := (HO2.out.cell (p := ⟨g, k * 2, none⟩) hg (by simp)).trans h1
          have d2 := (HO2.out.cell (p := ⟨g, k * 2 + 1, none⟩) hg (by simp)).trans h2
          have Hx := Lib.hid hx
          have HxE := Lib.hid (List.mem_of_getElem? hx)
          have hgw : g < wr.heap.size := Nat.lt_of_lt_of_le hg HO2.out.size
          have hH1 := in8_any wr u5 L2 x.1 How2.out.nams (by omega)
          have hH2 := in8_any wr u5 L2 x.2 How2.out.nams (by omega)
          have HH1 := Lib.hid hH1
          have HH2 := Lib.hid hH2
          clear hx h1 h2 hH1 hH2
          obtain ⟨xa, xb⟩ := x
          unfold encStr at d1 d2
          simp only at d1 d2
          go_wp2_with fail
          refine (HH1.out).mono ?_
          rintro e w3 ⟨rfl, rfl⟩
          cases hb1 : decide (xa ∈ L2) with
          | false =>
            have Hb1 := Lib.hid (of_decide_eq_false hb1)
            clear hb1
            go_wp2_with fail
            go_roundw
            case rel => exact ⟨k + 1, by go_num, by omega, L2, ag2, rfl, How2.out, HI2.out, Hno.out.next Hx.out (fun hm => absurd hm Hb1.out), HO2.out⟩
            case measure => simp [intOf]; omega
          | true =>
            have Hb1 := Lib.hid (of_decide_eq_true hb1)
            clear hb1
            go_wp2_with fail
            refine (HH2.out).mono ?_
            rintro e w3 ⟨rfl, rfl⟩
            cases hb2 : decide (xb ∈ L2) with
            | true =>
              have Hb2 := Lib.hid (of_decide_eq_true hb2)
              clear hb2
              go_wp2_with fail
              go_roundw
              case rel => exact ⟨k + 1, by go_num, by omega, L2, ag2, rfl, How2.out, HI2.out, Hno.out.next Hx.out (fun _ => Hb2.out), HO2.out⟩
              case measure => simp [intOf]; omega
            | false =>
              have Hb2 := Lib.hid (of_decide_eq_false hb2)
              clear hb2
              have hOl : Only [] wr (wr.alloc (.cells #[.string ⟨xb.toArray⟩] 9)) := (Only.refl _ _).alloc _
              have hws := HO2.out.size
              go_wp2_with
               (at_builtin
                refine wpList_append_18 rfl _ _ 24 9 rfl Try.underlying24 (.string ⟨#[]⟩) 16 infoT8 rfl (by decide) w.heap.size u5 L2.length (L2.map encStr) rfl (owns_off How2.out hOl (by simp)) wr.heap.size 1 (.string ⟨xb.toArray⟩) rfl ((IsBlk.made wr _).cell 0) rfl (by omega) (by simp; omega) ?_
                intro v' w4 k1 k2 k3)
              go_roundw
              case rel =>
                refine ⟨k + 1, by go_num, by omega, L2 ++ [xb], true, rfl, by unfold OwnN; rw [List.length_append, List.map_append]; exact k1, HI2.out.more HxE.out Hb1.out Hb2.out, Hno.out.more xb, (HO2.out.plus hOl).then k2 [] (by simp) (fun i hi => .inr (World.ownsRow.lt How2.out i (mem_ownL.1 hi)).1)⟩
              case measure => simp [intOf]; omega
        · have hki : ¬ (k : Int) < (E.length : Int) := by omega
          obtain rfl : k = E.length := by omega
          go_wp2_with fail
          cases ag2 with
          | true =>
            have hlt2 := Hno.out.resolve_right (fun h => by cases h.1)
            go_roundg (2 * (E.length + 2 - L2.length) + 1)
            case rel => exact ⟨L2, true, rfl, rfl, How2.out, HI2.out, .inl rfl, HO2.out⟩
            all_goals (have := hlt2.2; simp; omega)
          | false =>
            obtain ⟨-, rfl, hno⟩ := Hno.out.resolve_left (fun h => by cases h.1)
            have Hn := Lib.hid hno
            clear hno
            go_roundg (2 * (E.length + 2 - L2.length))
            case rel => exact ⟨L2, false, rfl, rfl, How2.out, HI2.out, .inr (fun e he hm => by
              obtain ⟨i, hi⟩ := List.mem_iff_getElem?.1 he
              exact Hn.out i e (List.getElem?_eq_some_iff.1 hi).1 hi hm), HO2.out⟩
            all_goals (simp)

end Go.Proofs.Ytgkddbpfjbgelaa
