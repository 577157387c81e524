/-
  The words of statements: wordOf, kindOf of the package parse.
-/
import Derived.Test.YtildkedplmjdaaaDoorPaC
namespace Go.Proofs.YtildkedplmjdaaaDoor
set_option maxRecDepth 100000
set_option linter.unusedVariables false
open Go.RowKit Go.Sort

def stmtW : List UInt8 := [117, 115, 101, 32, 115, 101, 116, 32, 108, 111, 99, 107, 32, 117, 110, 108, 111, 99, 107, 32, 99, 97, 108, 108, 32, 115, 112, 97, 119, 110, 32, 105, 102, 32, 108, 111, 111, 112, 32]
/-- How many blanks stand ahead of a place, and where the word begins that stands there. -/
def blanksM (k : Nat) : Nat := ((stmtW.take k).filter (· == 32)).length
def fromM : Nat → Nat
  | 0 => 0
  | k + 1 => if stmtW[k]? = some 32 then k + 1 else fromM k
theorem word_at : ∀ k < 39, stmtW[k]? = some 32 → fromM k ≤ k ∧ (stmtW.drop (fromM k)).take (k - fromM k) = verbM (blanksM k + 1) := by decide
theorem step_at : ∀ k < 39, (stmtW[k]? = some 32 → blanksM (k + 1) = blanksM k + 1 ∧ fromM (k + 1) = k + 1) ∧ (stmtW[k]? ≠ some 32 → blanksM (k + 1) = blanksM k ∧ fromM (k + 1) = fromM k) := by decide
theorem byte_at : ∀ k < 39, ∃ c, stmtW[k]? = some c ∧ c.toNat < 128 := by decide
theorem verb_far (k : Nat) (h : 8 < k) : verbM k = [] := by
  unfold verbM
  rw [if_neg (by omega), List.getElem?_eq_none (by simp [verbsM]; omega)]
  rfl

set_option maxHeartbeats 4000000 in
theorem wordOf_any (w : World) (kd : Nat) (hkd : kd ≤ 1000000) : Calls Tryd.prog 85 #[.int .i64 kd] w fun e w' => e = .returned (encStr (verbM kd)) ∧ Only [] w w' := by
  have hsz : (⟨stmtW.toArray⟩ : ByteArray).size = 39 := rfl
  go_enter Tryd.func85, Tryd.ntmps85
  go_wp2_with fail
  go_loopw [3, 4] (fun a b wr => ∃ k : Nat, k ≤ 39 ∧ a = .int .i64 (fromM k) ∧ b = .int .i64 (blanksM k + 1) ∧ wr.heap[w.heap.size]? = some (.stringIter ⟨stmtW.toArray⟩ k) ∧ Only [] w wr ∧ Hid (kd = 0 ∨ blanksM k < kd)) (fun _ _ wr => 39 - wr.iterPos w.heap.size)
  case atStart => exact ⟨0, by omega, rfl, rfl, World.iter_heap w _ 0, (Only.refl [] w).alloc _, Lib.hid (by have : blanksM 0 = 0 := rfl; omega)⟩
  case round =>
    obtain ⟨k, hk, rfl, rfl, hit, hO, hkn⟩ := hrel
    have HO := Lib.hid hO
    clear hO
    by_cases hlt : k < 39
    · have hnx : ∀ ty, (Instr.next (.pointer (some ⟨w.heap.size, 0, none⟩)) true ty).run Tryd.prog wr = _ := fun ty => Lib.run_next_any_at wr w.heap.size ⟨stmtW.toArray⟩ k ty hit (by rw [hsz]; exact hlt)
      have hlt' : k < stmtW.length := hlt
      have hget : (⟨stmtW.toArray⟩ : ByteArray)[k]'(by rw [hsz]; exact hlt) = stmtW[k] := rfl
      obtain ⟨c, hc, ha⟩ := byte_at k hlt
      have hck : stmtW[k] = c := by rw [List.getElem?_eq_getElem hlt'] at hc; injection hc
      have hd := decode_ascii ⟨stmtW.toArray⟩ k (by rw [hsz]; exact hlt) (by rw [hget, hck]; exact ha)
      rw [hget, hck] at hd
      rw [hd] at hnx
      simp only at hnx
      have hit2 := Lib.hid (Lib.iterAt_heap wr w.heap.size ⟨stmtW.toArray⟩ k (k + 1) hit)
      have HO2 := Lib.hid (HO.out.iterAt (k := w.heap.size) (Nat.le_refl _) ⟨stmtW.toArray⟩ (k + 1))
      have hip : Hid (wr.iterPos w.heap.size = k) := Lib.hid (by simp only [World.iterPos, hit])
      have hip2 : Hid ((wr.iterAt w.heap.size ⟨stmtW.toArray⟩ (k + 1)).iterPos w.heap.size = k + 1) := Lib.hid (by simp only [World.iterPos, hit2.out])
      have hstep := Lib.hid (step_at k hlt)
      have hword := Lib.hid (word_at k hlt)
      have hbl : blanksM k ≤ 39 := by
        unfold blanksM
        exact Nat.le_trans (List.length_filter_le _ _) (by rw [List.length_take]; omega)
      clear hit hd hget hck HO
      generalize hW : wr.iterAt w.heap.size ⟨stmtW.toArray⟩ (k + 1) = W at *
      clear hW
      by_cases h32 : c.toNat = 32
      · have hc32 : stmtW[k]? = some 32 := by rw [hc]; congr 1; exact UInt8.toNat.inj h32
        have h32i : (c.toNat : Int) = 32 := by omega
        obtain ⟨s1, s2⟩ := hstep.out.1 hc32
        obtain ⟨w1, w2⟩ := hword.out hc32
        by_cases hkd2 : blanksM k + 1 = kd
        · have hkdi : (blanksM k : Int) + 1 = (kd : Int) := by omega
          have hfi : (fromM k : Int) ≤ (k : Int) := by omega
          have hki : (k : Int) ≤ 39 := by omega
          have hex : (⟨stmtW.toArray⟩ : ByteArray).extract (fromM k) k = ⟨(verbM kd).toArray⟩ := by rw [extract_list, w2, hkd2]
          have Hs := Lib.hid s1
          have Hx := Lib.hid hex
          clear hc32 hstep hword s1 s2 w1 w2 hc
          generalize hF : fromM k = F at *
          generalize hB : blanksM k = B at *
          go_wp2
          go_ret
          exact ⟨congrArg (fun x => Ending.returned (Value.string x)) Hx.out, HO2.out⟩
        · have hkdi : ¬ (blanksM k : Int) + 1 = (kd : Int) := by omega
          have Hs := Lib.hid (And.intro s1 s2)
          clear hc32 hstep hword s1 s2 w1 w2 hc
          go_wp2
          go_roundw
          case rel => exact ⟨k + 1, by omega, by rw [Hs.out.2]; go_num, by rw [Hs.out.1]; go_num, hit2.out, HO2.out, Lib.hid (by rw [Hs.out.1]; have := hkn.out; omega)⟩
          case measure => rw [hip2.out, hip.out]; omega
      · have hc32 : stmtW[k]? ≠ some 32 := by rw [hc]; intro e; injection e with e; rw [e] at h32; exact h32 rfl
        have h32i : ¬ (c.toNat : Int) = 32 := by omega
        have Hs := Lib.hid (hstep.out.2 hc32)
        clear hc32 hstep hword hc
        go_wp2
        go_roundw
        case rel => exact ⟨k + 1, by omega, by rw [Hs.out.2], by rw [Hs.out.1], hit2.out, HO2.out, Lib.hid (by rw [Hs.out.1]; have := hkn.out; omega)⟩
        case measure => rw [hip2.out, hip.out]; omega
    · have hnx : ∀ ty, (Instr.next (.pointer (some ⟨w.heap.size, 0, none⟩)) true ty).run Tryd.prog wr = _ := fun ty => Lib.run_next_end_at wr w.heap.size ⟨stmtW.toArray⟩ k ty hit (by rw [hsz]; exact hlt)
      have hv : Hid (verbM kd = []) := Lib.hid (by
        have hk39 : k = 39 := by omega
        subst hk39
        have h8 : blanksM 39 = 8 := by decide
        have := hkn.out
        rw [h8] at this
        rcases this with rfl | h
        · rfl
        · exact verb_far kd h)
      clear hit hkn
      go_wp2
      go_ret
      rw [hv.out]
      exact ⟨rfl, HO.out⟩

theorem verb_kind : ∀ k < 9, 0 < k → kindM (verbM k) = k := by decide
theorem kind_verb (s : List UInt8) (h : kindM s ≠ 0) : verbM (kindM s) = s ∧ kindM s < 9 := by
  unfold kindM at h ⊢
  repeat' split
  all_goals first
    | (rename_i hx; subst hx; exact ⟨rfl, by omega⟩)
    | simp_all

set_option maxHeartbeats 4000000 in
theorem kindOf_any (w : World) (s : List UInt8) : Calls Tryd.prog 79 #[encStr s] w fun e w' => e = .returned (.int .i64 (kindM s)) ∧ Only [] w w' := by
  unfold encStr
  go_enter Tryd.func79, Tryd.ntmps79
  go_wp2_with fail
  go_loopw [3] (fun a wr => ∃ k : Nat, 1 ≤ k ∧ k ≤ 9 ∧ a = .int .i64 k ∧ Only [] w wr ∧ Hid (kindM s = 0 ∨ k ≤ kindM s)) (fun a _ => 9 - (intOf a).toNat)
  case atStart => exact ⟨1, by omega, by omega, rfl, Only.refl _ _, Lib.hid (by omega)⟩
  case round =>
    obtain ⟨k, hk1, hk9, rfl, hO, hkn⟩ := hrel
    have HO := Lib.hid hO
    clear hO
    by_cases hlt : k ≤ 8
    · have hlti : (k : Int) ≤ 8 := by omega
      go_wp2_with fail
      refine (wordOf_any _ k (by omega)).mono ?_
      rintro e w1 ⟨rfl, hO1⟩
      have HO1 := Lib.hid (HO.out.plus hO1)
      clear hO1
      unfold encStr
      have hv := Lib.hid (verb_kind k (by omega) (by omega))
      by_cases he : verbM k = s
      · have he' : (verbM k == s) = true := by simpa using he
        have hk : Hid (kindM s = k) := Lib.hid (by rw [← he]; exact hv.out)
        go_wp2
        go_ret
        rw [hk.out]
        exact ⟨rfl, HO1.out⟩
      · have he' : (verbM k == s) = false := by simpa using he
        have hk : Hid (kindM s = 0 ∨ k + 1 ≤ kindM s) := Lib.hid (by
          rcases hkn.out with h | h
          · exact .inl h
          · right
            rcases Nat.lt_or_ge k (kindM s) with h1 | h1
            · exact h1
            · have h2 := kind_verb s (by omega)
              rw [show kindM s = k by omega] at h2
              exact absurd h2.1 he)
        clear hkn hv
        generalize hV : verbM k = V at *
        clear hV
        go_wp2
        go_roundw
        case rel => exact ⟨k + 1, by omega, by omega, by go_num, HO1.out, hk⟩
        case measure => simp [intOf]; omega
    · have hlti : ¬ (k : Int) ≤ 8 := by omega
      have hz : Hid (kindM s = 0) := Lib.hid (by
        rcases hkn.out with h | h
        · exact h
        · by_cases h0 : kindM s = 0
          · exact h0
          · have := (kind_verb s h0).2; omega)
      clear hkn
      go_wp2
      go_ret
      rw [hz.out]
      exact ⟨rfl, HO.out⟩

end Go.Proofs.YtildkedplmjdaaaDoor
