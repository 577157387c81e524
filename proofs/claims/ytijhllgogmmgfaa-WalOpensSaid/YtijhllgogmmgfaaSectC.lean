/-
  Appends of bytes as one law; isPart, lay, number, areNoughts, bytes.Equal; the reference's le and num.
-/
import Derived.Test.YtijhllgogmmgfaaChecked
import Derived.Test.YtijhllgogmmgfaaSectA
import Derived.Test.YtijhllgogmmgfaaLaws
import Derived.WalkSpells
import Derived.WalkLawsBesides
import Derived.Laws.BytesArg
import Derived.Laws.OwnMore
import Derived.Laws.AppendOwn
namespace Go.Proofs.Ytijhllgogmmgfaa
set_option linter.unusedVariables false
set_option maxRecDepth 100000
open Go.RowKit

theorem step_sect (d : Nat) (h : d < 4294967296) : bits .xor .u32 ((d : Int) / 2) (3988292384 * bits .and .u32 (d : Int) 1 % 4294967296) = (stepC d : Int) := by
  have e1 : bits .and .u32 (d : Int) 1 = ((d % 2 : Nat) : Int) := by
    have := u32_and_nat d 1 h (by omega); rw [nat_mask1] at this; exact this
  rw [e1]
  have e2 : (3988292384 * ((d % 2 : Nat) : Int) % 4294967296) = ((if d % 2 = 1 then 3988292384 else 0 : Nat) : Int) := by
    rcases Nat.mod_two_eq_zero_or_one d with h2 | h2 <;> simp [h2]
  rw [e2, show (d : Int) / 2 = ((d / 2 : Nat) : Int) by omega, u32_xor_nat _ _ (by omega) (by split <;> decide)]
  rfl
theorem and_one (d : Nat) (h : d < 4294967296) : bits .and .u32 (d : Int) 1 = ((d % 2 : Nat) : Int) := by
  have := u32_and_nat d 1 h (by omega); rw [nat_mask1] at this; exact this
theorem step_ref (d : Nat) (h : d < 4294967296) (h1 : d % 2 = 1) : bits .xor .u32 ((d : Int) / 2) 3988292384 = (stepC d : Int) := by
  rw [show (d : Int) / 2 = ((d / 2 : Nat) : Int) by omega]
  have := u32_xor_nat (d / 2) 3988292384 (by omega) (by omega)
  simp only [stepC, h1, if_true]
  exact this
theorem step_ref0 (d : Nat) (h1 : d % 2 = 0) : ((d : Int) / 2) = (stepC d : Int) := by
  simp only [stepC, h1]; simp
theorem not_sum (c : Nat) (h : c < 4294967296) : bits .xor .u32 IntKind.u32.max (c : Int) = ((c ^^^ 4294967295 : Nat) : Int) := by
  have := u32_xor_nat 4294967295 c (by omega) h
  rw [Nat.xor_comm] at this
  exact this
theorem xor_sum (c : Nat) (h : c < 4294967296) : bits .xor .u32 (c : Int) 4294967295 = ((c ^^^ 4294967295 : Nat) : Int) := u32_xor_nat c 4294967295 h (by omega)

set_option maxHeartbeats 1000000 in
theorem crc_any (w : World) (a : Option Addr) (len cap : Nat) (l : List UInt8) (h : Src w a len l) (hl : len ≤ 1000000) :
    Calls Try.prog 67 #[.slice a len cap] w fun e w' => e = .returned (.int .u32 (crcN l)) ∧ w = w' := by
  have H := Lib.hid h
  clear h
  go_enter Try.func67, Try.ntmps67
  go_wp2
  go_loopw [3, 9] (fun s i wr => ∃ k : Nat, k ≤ len ∧ i = .int .i64 k ∧ s = .int .u32 (rawC 4294967295 (l.take k)) ∧ w = wr) (fun _ i _ => len - (intOf i).toNat)
  case atStart => exact ⟨0, Nat.zero_le _, rfl, rfl, rfl⟩
  case round =>
    obtain ⟨k, hk, rfl, rfl, rfl⟩ := hrel
    have hb := rawC_lt (l.take k) (show 4294967295 < 4294967296 by omega)
    by_cases hlt : k < len
    · have hlti : (k : Int) < (len : Int) := by omega
      have hkl : k < l.length := by rw [H.out.1]; exact hlt
      obtain ⟨b, o, rfl, hbb, hr⟩ := H.out.2 (by omega)
      have hc := Src.cell hr k hkl
      have hs := Lib.hid (rawC_take 4294967295 l k hkl)
      generalize hv : l[k] = v at *
      have hvb : v.toNat < 256 := v.toNat_lt
      clear hv
      generalize rawC 4294967295 (l.take k) = c at *
      have hx : bits .xor .u32 (c : Int) (v.toNat : Int) = ((c ^^^ v.toNat : Nat) : Int) := u32_xor_nat _ _ hb (by omega)
      have hx2 : c ^^^ v.toNat < 4294967296 := xor_lt32 hb (by omega)
      go_wp2
      go_loopw [3, 17] (fun s i wr => ∃ j : Nat, j ≤ 8 ∧ i = .int .i64 j ∧ s = .int .u32 (stepsC j (c ^^^ v.toNat)) ∧ w = wr) (fun _ i _ => 8 - (intOf i).toNat)
      case atStart => exact ⟨0, Nat.zero_le _, rfl, rfl, rfl⟩
      case round =>
        obtain ⟨j, hj, rfl, rfl, rfl⟩ := hrel
        have hb2 := stepsC_lt j hx2
        by_cases hlt8 : j < 8
        · have hlti8 : (j : Int) < 8 := by omega
          have hs2 : Hid (stepsC (j + 1) (c ^^^ v.toNat) = stepC (stepsC j (c ^^^ v.toNat))) := Lib.hid rfl
          generalize stepsC j (c ^^^ v.toNat) = d at *
          go_wp2
          go_roundw
          case rel => exact ⟨j + 1, by omega, by go_num, by rw [hs2.out, step_sect d hb2], trivial⟩
          case measure => simp [intOf]; omega
        · have hge8 : ¬ (j : Int) < 8 := by omega
          obtain rfl : j = 8 := by omega
          go_wp2
          go_roundw
          case rel => exact ⟨k + 1, by omega, by go_num, by rw [hs.out]; rfl, trivial⟩
          case measure => simp [intOf]; omega
    · have hge : ¬ (k : Int) < (len : Int) := by omega
      obtain rfl : k = len := by omega
      have hn := Lib.hid (not_sum _ hb)
      have ht : Hid (l.take k = l) := Lib.hid (List.take_of_length_le (by rw [H.out.1]; exact Nat.le_refl _))
      go_wp2
      go_ret
      refine ⟨ret_int ?_, rfl⟩
      rw [hn.out, ht.out]
      rfl

set_option maxHeartbeats 1000000 in
theorem refcrc_any (w : World) (a : Option Addr) (len cap : Nat) (l : List UInt8) (h : Src w a len l) (hl : len ≤ 1000000) :
    Calls Try.prog 47 #[.slice a len cap] w fun e w' => e = .returned (.int .u32 (crcN l)) ∧ w = w' := by
  have H := Lib.hid h
  clear h
  go_enter Try.func47, Try.ntmps47
  go_wp2
  go_loopw [3, 4] (fun s i wr => ∃ k : Nat, k ≤ len ∧ i = .int .i64 k ∧ s = .int .u32 (rawC 4294967295 (l.take k)) ∧ w = wr) (fun _ i _ => len - (intOf i).toNat)
  case atStart => exact ⟨0, Nat.zero_le _, rfl, rfl, rfl⟩
  case round =>
    obtain ⟨k, hk, rfl, rfl, rfl⟩ := hrel
    have hb := rawC_lt (l.take k) (show 4294967295 < 4294967296 by omega)
    by_cases hlt : k < len
    · have hlti : (k : Int) < (len : Int) := by omega
      have hkl : k < l.length := by rw [H.out.1]; exact hlt
      obtain ⟨b, o, rfl, hbb, hr⟩ := H.out.2 (by omega)
      have hc := Src.cell hr k hkl
      have hs := Lib.hid (rawC_take 4294967295 l k hkl)
      generalize hv : l[k] = v at *
      have hvb : v.toNat < 256 := v.toNat_lt
      clear hv
      generalize rawC 4294967295 (l.take k) = c at *
      have hx : bits .xor .u32 (c : Int) (v.toNat : Int) = ((c ^^^ v.toNat : Nat) : Int) := u32_xor_nat _ _ hb (by omega)
      have hx2 : c ^^^ v.toNat < 4294967296 := xor_lt32 hb (by omega)
      go_wp2
      go_loopw [3, 5] (fun s i wr => ∃ j : Nat, j ≤ 8 ∧ i = .int .i64 j ∧ s = .int .u32 (stepsC j (c ^^^ v.toNat)) ∧ w = wr) (fun _ i _ => 8 - (intOf i).toNat)
      case atStart => exact ⟨0, Nat.zero_le _, rfl, rfl, rfl⟩
      case round =>
        obtain ⟨j, hj, rfl, rfl, rfl⟩ := hrel
        have hb2 := stepsC_lt j hx2
        by_cases hlt8 : j < 8
        · have hlti8 : (j : Int) < 8 := by omega
          have hs2 : Hid (stepsC (j + 1) (c ^^^ v.toNat) = stepC (stepsC j (c ^^^ v.toNat))) := Lib.hid rfl
          generalize stepsC j (c ^^^ v.toNat) = d at *
          have hand := and_one d hb2
          rcases Nat.mod_two_eq_zero_or_one d with h2 | h2
          · rw [h2] at hand
            have hs3 := Lib.hid (step_ref0 d h2)
            clear h2
            go_wp2
            go_roundw
            case rel => exact ⟨j + 1, by omega, by go_num, by rw [hs2.out, hs3.out], trivial⟩
            case measure => simp [intOf]; omega
          · rw [h2] at hand
            have hs3 := Lib.hid (step_ref d hb2 h2)
            clear h2
            go_wp2
            go_roundw
            case rel => exact ⟨j + 1, by omega, by go_num, by rw [hs2.out, hs3.out], trivial⟩
            case measure => simp [intOf]; omega
        · have hge8 : ¬ (j : Int) < 8 := by omega
          obtain rfl : j = 8 := by omega
          go_wp2
          go_roundw
          case rel => exact ⟨k + 1, by omega, by go_num, by rw [hs.out]; rfl, trivial⟩
          case measure => simp [intOf]; omega
    · have hge : ¬ (k : Int) < (len : Int) := by omega
      obtain rfl : k = len := by omega
      have hn := Lib.hid (xor_sum _ hb)
      have ht : Hid (l.take k = l) := Lib.hid (List.take_of_length_le (by rw [H.out.1]; exact Nat.le_refl _))
      go_wp2
      go_ret
      refine ⟨ret_int ?_, rfl⟩
      rw [hn.out, ht.out]
      rfl

theorem tmod_bounds (x : Int) (n : Nat) (hn0 : 0 < n) : -(n : Int) < x.tmod n ∧ x.tmod n < n ∧ (0 ≤ x.tmod n → x.tmod n = x % n) ∧ (x.tmod n < 0 → x.tmod n + n = x % n) := by
  have h1 := Int.tmod_lt_of_pos x (show (0 : Int) < n by omega)
  have h2 := Int.lt_tmod_of_pos x (show (0 : Int) < n by omega)
  have h3 : (x.tmod n) % (n : Int) = x % n := by rw [Int.tmod_eq_emod]; split <;> simp
  refine ⟨h2, h1, fun h => ?_, fun h => ?_⟩
  · rw [← h3]; exact (Int.emod_eq_of_lt h h1).symm
  · rw [← h3, ← Int.add_emod_right]; exact (Int.emod_eq_of_lt (by omega) (by omega)).symm

theorem partsFor_any (w : World) (n : Nat) (hn : n < 1000000000000) :
    Calls Try.prog 58 #[.int .i64 n] w fun e w' => e = .returned (.int .i64 ((n + 55) / 52 : Nat)) ∧ w = w' := by
  go_enter Try.func58, Try.ntmps58
  go_wp2
  go_ret
  refine ⟨ret_int ?_, rfl⟩
  omega

set_option maxHeartbeats 400000 in
theorem mayMark_any (w : World) (g r : Int) : Calls Try.prog 57 #[.int .i64 g, .int .i64 r] w fun e w' => e = .returned (.bool (mayB g r)) ∧ w = w' := by
  unfold mayB
  by_cases h1 : 1 ≤ g <;> by_cases h2 : g ≤ 4294967295 <;> by_cases h3 : 0 ≤ r <;> by_cases h4 : r ≤ 65535
  all_goals
    go_enter Try.func57, Try.ntmps57
    go_wp2
    go_ret
    refine ⟨ret_bool ?_, rfl⟩
    simp [h1, h2, h3, h4]

end Go.Proofs.Ytijhllgogmmgfaa
namespace Go.Proofs.Ytijhllgogmmgfaa
set_option linter.unusedVariables false
set_option maxRecDepth 100000
open Go.RowKit

theorem info5 : (Try.prog.info? 5).map (fun i => (i.zero, i.size, i.bytes)) = some (some (.int .u8 0), 1, 1) := by kernel_rfl

/-- A slice of bytes that begins a row of one's own, from block base on. -/
def OwnB (w : World) (base : Nat) (v : Value) (l : List UInt8) : Prop := w.ownsRow base 5 1 v l.length (bv l)
theorem OwnB.nil (w : World) (base : Nat) : OwnB w base (.slice none 0 0) [] := World.ownsRow_nil _ _ _ _
theorem below_grown {w w' : World} {base : Nat} {row : Option Nat} (h : w.grownBy w' row) (hr : ∀ k, row = some k → base ≤ k) (hb : base ≤ w.heap.size) : Below base w w' :=
  ⟨h.os, h.tape, h.output, by have := h.size; omega, fun k hk => h.block k (by omega) (fun e => by have := hr k e.symm; omega)⟩

theorem OwnB.lt {w : World} {base : Nat} {v : Value} {l : List UInt8} (h : OwnB w base v l) : ∀ k, v.ownBlock = some k → base ≤ k ∧ k < w.heap.size := World.ownsRow.lt h
theorem OwnB.shape {w : World} {base : Nat} {v : Value} {l : List UInt8} (h : OwnB w base v l) : ∃ a cap, v = .slice a l.length cap ∧ Src w a l.length l ∧ (∀ b o, a = some ⟨b, o, none⟩ → base ≤ b ∧ b < w.heap.size ∧ o = 0) ∧ (a = none → cap = 0) := by
  rcases h.2 with ⟨rfl, h0⟩ | ⟨g, cap, cur, rfl, hb, hg, hnc, _, hsz, htake⟩
  · refine ⟨none, 0, by rw [h0], ⟨rfl, fun hp => by omega⟩, by simp, fun _ => rfl⟩
  · have hlt := IsBlk.lt hg
    refine ⟨some ⟨g, 0, none⟩, cap, rfl, ⟨rfl, fun hp => ⟨g, 0, rfl, hlt, fun j u hu => ?_⟩⟩, ?_, by simp⟩
    · have := World.ownsRow.cells h (g := g) rfl j u hu
      rw [Addr.add_mid] at this
      exact this
    · intro b o e; injection e with e; injection e with e1 e2; subst e1; subst e2; exact ⟨hb, hlt, rfl⟩
theorem OwnB.below {w w' : World} {base B : Nat} {v : Value} {l : List UInt8} (h : OwnB w base v l) (hb : Below B w w') (hlt : ∀ k, v.ownBlock = some k → k < B) : OwnB w' base v l := by
  refine ⟨h.1, ?_⟩
  rcases h.2 with hn | ⟨g, cap, cur, rfl, hbs, hgg, rest⟩
  · exact .inl hn
  · refine .inr ⟨g, cap, cur, rfl, hbs, ?_, rest⟩
    rw [hb.block g (hlt g rfl)]
    exact hgg
theorem OwnB.more {w w' : World} {base : Nat} {v : Value} {l : List UInt8} (h : OwnB w base v l) (hb : Below w.heap.size w w') : OwnB w' base v l := h.below hb (fun k hk => (h.lt k hk).2)
theorem OwnB.lower {w : World} {base base' : Nat} {v : Value} {l : List UInt8} (h : OwnB w base v l) (hb : base' ≤ base) : OwnB w base' v l := by
  refine ⟨h.1, ?_⟩
  rcases h.2 with hn | ⟨g, cap, cur, rfl, hbs, hgg, rest⟩
  · exact .inl hn
  · exact .inr ⟨g, cap, cur, rfl, by omega, hgg, rest⟩
/-- An empty row in new memory. -/
theorem OwnB.empty (w : World) (base : Nat) (hb : base ≤ w.heap.size) : OwnB (w.alloc (.cells #[] 5)) base (.slice (some ⟨w.heap.size, 0, none⟩) 0 0) [] :=
  World.ownsRow_made w #[] 0 hb (by simp [maxLen]) (by simp)

theorem run_append_none (w : World) (base : Nat) (v : Value) (L : List UInt8) (h : OwnB w base v L) (ty : TypeId) (c : Nat) :
    (Builtin.append_ #[23, 23] ty #[v, .slice none 0 c]).run Try.prog w = .ok v w := by
  obtain ⟨i0, hi, hz0, hz1, hz2⟩ := info_parts info5
  rcases h.2 with ⟨rfl, _⟩ | ⟨g, cap, cur, rfl, _, _, hnc, _⟩
  · simp [Builtin.append_, run_underlying Try.underlying23, sizeOf, typeInfo, hi, Builtin.lenOf, Builtin.firstCells]
  · simp [Builtin.append_, run_underlying Try.underlying23, sizeOf, typeInfo, hi, Builtin.lenOf, Builtin.firstCells, hnc, storeCells]

/-- Bytes appended to a row of one's own. -/
theorem wp_append_b {w : World} {o : Oper} {a : Act} {K : Act → World → Prop} {Q : Exit → Act → World → Prop} (s x : Operand)
    (ho : o.op = .call { callee := .builtin .append, args := #[s, x], argTypes := #[23, 23] })
    (base : Nat) (v : Value) (L : List UInt8) (hs : a.eval s = v) (hown : OwnB w base v L)
    (xa : Option Addr) (m c : Nat) (l : List UInt8) (hx : a.eval x = .slice xa m c) (hsrc : Src w xa m l) (hsm : L.length + m ≤ 100000000) (hbase : base ≤ w.heap.size)
    (h : ∀ v' w', OwnB w' base v' (L ++ l) → Below base w w' → (v' = .slice none 0 0 → v = .slice none 0 0) → K (a.put o.dst v') w') : o.wp Try.prog a w K Q := by
  obtain ⟨i0, hi, hz0, hz1, hz2⟩ := info_parts info5
  have hlen := hsrc.1
  rcases xa with _ | ad
  · have hm : m = 0 := by
      rcases Nat.eq_zero_or_pos m with h0 | h0
      · exact h0
      · obtain ⟨b, o, e, _⟩ := hsrc.2 h0; cases e
    subst hm
    obtain rfl : l = [] := List.eq_nil_of_length_eq_zero hlen
    have hrun := run_append_none w base v L hown o.type c
    unfold Oper.wp execOp
    simp only [ho, resolve, invoke, builtin, Sem.run_bind, Sem.run_pure, Result.andThen_ok, List.map_toArray, List.map_cons, List.map_nil, hs, hx, hrun]
    exact h v w (by simpa using hown) (Below.refl _ _) (fun h => h)
  · refine wp_append_own w s x _ ho base _ i0 (.int .u8 0) 1 1 Try.underlying23 hi hz0 hz1 hz2 rfl (by decide) v L.length (bv L) hs hown ad m c (bv l) hx (by rw [length_bv, hlen, Nat.mul_one])
      (fun j u hu => ?_) (bv_one l) (by unfold maxLen; omega) (by omega) hbase ?_
    · have hj : j < m := by have := (List.getElem?_eq_some_iff.1 hu).1; rw [length_bv] at this; omega
      obtain ⟨b, o', e, hb, hr⟩ := hsrc.2 (by omega)
      injection e with e; subst e
      rw [Addr.add_mid]; exact hr j u hu
    · intro v' w' h2 h3 h4
      refine h v' w' ?_ (below_grown h3 (fun k hk => (hown.lt k hk).1) hbase) (fun e => (h4.1 e).1)
      unfold OwnB
      rw [List.length_append, hlen, bv_append]
      exact h2

theorem wpList_append_b {w : World} {ops : Array Oper} {rest : List Oper} {o : Oper} {a : Act} {Q : Exit → Act → World → Prop} (hgd : o.guard = none) (s x : Operand)
    (ho : o.op = .call { callee := .builtin .append, args := #[s, x], argTypes := #[23, 23] })
    (base : Nat) (v : Value) (L : List UInt8) (hs : a.eval s = v) (hown : OwnB w base v L)
    (xa : Option Addr) (m c : Nat) (l : List UInt8) (hx : a.eval x = .slice xa m c) (hsrc : Src w xa m l) (hsm : L.length + m ≤ 100000000) (hbase : base ≤ w.heap.size)
    (h : ∀ v' w', OwnB w' base v' (L ++ l) → Below base w w' → (v' = .slice none 0 0 → v = .slice none 0 0) → wpList Try.prog ops Q rest (a.put o.dst v') w') : wpList Try.prog ops Q (o :: rest) a w :=
  wpList_plain hgd fun _ hK => wp_append_b s x ho base v L hs hown xa m c l hx hsrc hsm hbase fun v' w' h2 h3 h4 => hK _ _ (h v' w' h2 h3 h4)

set_option maxHeartbeats 4000000 in
theorem isPart_any (w : World) (g r n o : Int) (a : Option Addr) (k cap : Nat) (d : List UInt8) (hd : d.length = k) :
    Calls Try.prog 66 #[.agg #[.int .i64 g, .int .i64 r, .int .i64 n, .int .i64 o, .slice a k cap]] w fun e w' => e = .returned (.bool (okB ⟨g, r, n, o, d⟩)) ∧ Only [] w w' := by
  unfold okB
  simp only [hd]
  have Hd := Lib.hid hd
  clear hd
  cases hm : mayB g r with
  | false =>
    go_enter Try.func66, Try.ntmps66
    go_wp2_with fail
    refine (mayMark_any _ g r).mono ?_
    rw [hm]
    rintro e w' ⟨rfl, rfl⟩
    go_wp2
    go_ret
    exact ⟨rfl, (Only.refl _ _).alloc _⟩
  | true =>
    go_enter Try.func66, Try.ntmps66
    go_wp2_with fail
    refine (mayMark_any _ g r).mono ?_
    rw [hm]
    rintro e w' ⟨rfl, rfl⟩
    by_cases h1 : 1 ≤ o
    · by_cases h2 : o ≤ 255
      · by_cases h3 : 0 ≤ n
        · by_cases h4 : n < o
          · by_cases h5 : k = 52
            · subst h5
              go_wp2
              go_ret
              exact ⟨ret_bool (by simp), (Only.refl _ _).alloc _⟩
            · have h5' : ((k : Int) == 52) = false := by simp; omega
              go_wp2
              go_ret
              exact ⟨ret_bool (by simp [h5]), (Only.refl _ _).alloc _⟩
          · go_wp2
            go_ret
            exact ⟨ret_bool (by simp; intros; omega), (Only.refl _ _).alloc _⟩
        · go_wp2
          go_ret
          exact ⟨ret_bool (by simp; intros; omega), (Only.refl _ _).alloc _⟩
      · go_wp2
        go_ret
        exact ⟨ret_bool (by simp; intros; omega), (Only.refl _ _).alloc _⟩
    · go_wp2
      go_ret
      exact ⟨ret_bool (by simp; intros; omega), (Only.refl _ _).alloc _⟩

end Go.Proofs.Ytijhllgogmmgfaa
