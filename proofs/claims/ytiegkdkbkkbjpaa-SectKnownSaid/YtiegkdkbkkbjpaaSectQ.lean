/-
  The sum finds one bit, and two bits, that are others: what is said of it by itself.
-/
import Derived.Test.YtiegkdkbkkbjpaaSectA
namespace Go.Proofs.Ytiegkdkbkkbjpaa
open Go.RowKit

theorem stepC_xor (a b : Nat) : stepC (a ^^^ b) = stepC a ^^^ stepC b := by
  unfold stepC
  rw [Nat.xor_div_two]
  have hp : (a ^^^ b) % 2 = (a % 2 + b % 2) % 2 := by
    have hx : decide ((a ^^^ b) % 2 = 1) = (decide (a % 2 = 1) ^^ decide (b % 2 = 1)) := by simpa [Nat.testBit_zero] using Nat.testBit_xor a b 0
    rcases Nat.mod_two_eq_zero_or_one (a ^^^ b) with hc | hc <;> rcases Nat.mod_two_eq_zero_or_one a with ha | ha <;> rcases Nat.mod_two_eq_zero_or_one b with hb | hb <;> rw [ha, hb, hc] at hx <;> rw [ha, hb, hc] <;> first | rfl | exact absurd hx (by decide)
  rcases Nat.mod_two_eq_zero_or_one a with ha | ha <;> rcases Nat.mod_two_eq_zero_or_one b with hb | hb
  · simp [hp, ha, hb]
  · simp [hp, ha, hb, Nat.xor_assoc]
  · simp [hp, ha, hb]; rw [Nat.xor_assoc, Nat.xor_comm (b / 2), Nat.xor_assoc]
  · simp only [hp, ha, hb]
    simp only [Nat.reduceAdd, Nat.reduceMod, if_true]
    rw [if_neg (by omega), Nat.xor_zero, Nat.xor_assoc, Nat.xor_comm (b / 2), ← Nat.xor_assoc 3988292384, Nat.xor_self, Nat.zero_xor]
theorem stepsC_xor : ∀ (n a b : Nat), stepsC n (a ^^^ b) = stepsC n a ^^^ stepsC n b
  | 0, _, _ => rfl
  | n + 1, a, b => by simp only [stepsC]; rw [stepsC_xor n, stepC_xor]
theorem stepsC_add : ∀ (m n a : Nat), stepsC (m + n) a = stepsC m (stepsC n a)
  | 0, n, a => by rw [Nat.zero_add]; rfl
  | m + 1, n, a => by rw [Nat.add_right_comm]; simp only [stepsC]; rw [stepsC_add m]
theorem byteC_xor (c v : Nat) (b : UInt8) : byteC (c ^^^ v) b = byteC c b ^^^ stepsC 8 v := by
  unfold byteC; rw [← stepsC_xor]; congr 1; rw [Nat.xor_assoc, Nat.xor_comm v, Nat.xor_assoc]
theorem rawC_xor : ∀ (l : List UInt8) (c v : Nat), rawC (c ^^^ v) l = rawC c l ^^^ stepsC (8 * l.length) v
  | [], c, v => rfl
  | b :: l, c, v => by
    have h := rawC_xor l (byteC c b) (stepsC 8 v)
    simp only [rawC, List.foldl_cons] at h ⊢
    rw [byteC_xor, h, ← stepsC_add, List.length_cons, Nat.mul_succ]

/-- Bit i of bytes turned. -/
def flipB (l : List UInt8) (i : Nat) : List UInt8 := l.set (i / 8) (l.getD (i / 8) 0 ^^^ UInt8.ofNat (2 ^ (i % 8)))
theorem length_flipB (l : List UInt8) (i : Nat) : (flipB l i).length = l.length := by simp [flipB]
theorem pow_lt (i : Nat) : 2 ^ (i % 8) < 256 := by
  have : i % 8 < 8 := Nat.mod_lt _ (by omega)
  exact Nat.lt_of_lt_of_le (Nat.pow_lt_pow_right (by omega) this) (by decide)
theorem xor_toNat (b : UInt8) (i : Nat) : (b ^^^ UInt8.ofNat (2 ^ (i % 8))).toNat = b.toNat ^^^ 2 ^ (i % 8) := by
  rw [UInt8.toNat_xor]; congr 1; simp [Nat.mod_eq_of_lt (pow_lt i)]
theorem byteC_flip (c : Nat) (b : UInt8) (i : Nat) : byteC c (b ^^^ UInt8.ofNat (2 ^ (i % 8))) = byteC c b ^^^ stepsC 8 (2 ^ (i % 8)) := by
  unfold byteC; rw [xor_toNat, ← Nat.xor_assoc, stepsC_xor]
theorem rawC_set : ∀ (l : List UInt8) (c t i : Nat), t < l.length → rawC c (l.set t (l.getD t 0 ^^^ UInt8.ofNat (2 ^ (i % 8)))) = rawC c l ^^^ stepsC (8 * (l.length - t)) (2 ^ (i % 8))
  | [], _, _, _, h => by simp at h
  | b :: l, c, 0, i, _ => by
    have h := rawC_xor l (byteC c b) (stepsC 8 (2 ^ (i % 8)))
    simp only [List.set_cons_zero, List.getD_cons_zero, rawC, List.foldl_cons] at h ⊢
    rw [byteC_flip, h, ← stepsC_add, List.length_cons, Nat.sub_zero, Nat.mul_succ]
  | b :: l, c, t + 1, i, h => by
    have h' := rawC_set l (byteC c b) t i (by simpa using h)
    simp only [List.set_cons_succ, List.getD_cons_succ, rawC, List.foldl_cons] at h' ⊢
    rw [h', List.length_cons, show l.length + 1 - (t + 1) = l.length - t by omega]

/-- The highest bit: all single bits come of it. -/
def topC : Nat := 2147483648
theorem pow_steps : ∀ b, b < 32 → stepsC (31 - b) topC = 2 ^ b := by decide +kernel
theorem stepC_inj {a b : Nat} (ha : a < 4294967296) (hb : b < 4294967296) (h : stepC a = stepC b) : a = b := by
  have key : ∀ x, x < 4294967296 → x = (if 2147483648 ≤ stepC x then 2 * (stepC x ^^^ 3988292384) + 1 else 2 * stepC x) := by
    intro x hx
    rcases Nat.mod_two_eq_zero_or_one x with h2 | h2
    · have e : stepC x = x / 2 := by simp [stepC, h2]
      rw [e, if_neg (by omega)]; omega
    · have e : stepC x = x / 2 ^^^ 3988292384 := by simp [stepC, h2]
      have hbit : (x / 2 ^^^ 3988292384).testBit 31 = true := by
        rw [Nat.testBit_xor, Nat.testBit_lt_two_pow (show x / 2 < 2 ^ 31 by omega)]; decide
      have hge : 2147483648 ≤ x / 2 ^^^ 3988292384 := Nat.ge_two_pow_of_testBit hbit
      rw [e, if_pos hge, Nat.xor_assoc, Nat.xor_self, Nat.xor_zero]; omega
  rw [key a ha, key b hb, h]
theorem stepsC_inj : ∀ (n : Nat) {a b : Nat}, a < 4294967296 → b < 4294967296 → stepsC n a = stepsC n b → a = b
  | 0, _, _, _, _, h => h
  | n + 1, _, _, ha, hb, h => stepsC_inj n ha hb (stepC_inj (stepsC_lt n ha) (stepsC_lt n hb) h)
theorem stepsC_zero : ∀ n, stepsC n 0 = 0
  | 0 => rfl
  | n + 1 => by simp only [stepsC]; rw [stepsC_zero n]; rfl
theorem no_ring : ((List.range 511).all fun d => stepsC (d + 1) topC != topC) = true := by decide +kernel
theorem steps_ne {m n : Nat} (h : m < n) (hn : n ≤ 511) : stepsC m topC ≠ stepsC n topC := by
  intro e
  have e2 : stepsC n topC = stepsC m (stepsC (n - m) topC) := by rw [← stepsC_add]; congr 1; omega
  rw [e2] at e
  have e3 := stepsC_inj m (by decide) (stepsC_lt _ (by decide)) e
  have hr := no_ring
  rw [List.all_eq_true] at hr
  have := hr (n - m - 1) (by rw [List.mem_range]; omega)
  rw [show n - m - 1 + 1 = n - m by omega, ← e3] at this
  simp at this
theorem steps_nz (n : Nat) : stepsC n topC ≠ 0 := by
  intro e
  rw [← stepsC_zero n] at e
  have := stepsC_inj n (by decide) (by omega) e
  simp [topC] at this

/-- What is summed, and the sum, of a sector's bytes; nought where they fit. -/
def msgB (c : List UInt8) : List UInt8 := c.take 8 ++ c.drop 12
def sumB (c : List UInt8) : Nat := numB ((c.drop 8).take 4)
def offB (c : List UInt8) : Nat := rawC 4294967295 (msgB c) ^^^ (4294967295 ^^^ sumB c)
/-- How many steps bit i of a sector is ahead. -/
def stepsAt (i : Nat) : Nat := if i < 64 then 511 - i else if i < 96 then 95 - i else 543 - i
theorem stepsAt_le {i : Nat} (h : i < 512) : stepsAt i ≤ 511 := by unfold stepsAt; split; omega; split <;> omega
theorem stepsAt_inj {i j : Nat} (hi : i < 512) (hj : j < 512) (h : stepsAt i = stepsAt j) : i = j := by
  unfold stepsAt at h; split at h <;> split at h <;> (try split at h) <;> (try split at h) <;> omega

theorem numB_flip : ∀ (l : List UInt8) (t i : Nat), t < l.length → numB (l.set t (l.getD t 0 ^^^ UInt8.ofNat (2 ^ (i % 8)))) = numB l ^^^ 2 ^ (8 * t + i % 8)
  | [], _, _, h => by simp at h
  | b :: l, 0, i, _ => by
    have hi : i % 8 < 8 := Nat.mod_lt _ (by omega)
    simp only [List.set_cons_zero, List.getD_cons_zero, numB, Nat.mul_zero, Nat.zero_add, xor_toNat]
    have h1 : b.toNat + 256 * numB l = 256 * numB l ||| b.toNat := by rw [Nat.add_comm]; exact (nat_join 8 (256 * numB l) b.toNat (by omega) b.toNat_lt).symm
    have hx : b.toNat ^^^ 2 ^ (i % 8) < 256 := Nat.xor_lt_two_pow (n := 8) b.toNat_lt (pow_lt i)
    have h2 : (b.toNat ^^^ 2 ^ (i % 8)) + 256 * numB l = 256 * numB l ||| (b.toNat ^^^ 2 ^ (i % 8)) := by rw [Nat.add_comm]; exact (nat_join 8 (256 * numB l) _ (by omega) hx).symm
    rw [h1, h2]
    apply Nat.eq_of_testBit_eq
    intro k
    simp only [Nat.testBit_or, Nat.testBit_xor]
    by_cases hk : k < 8
    · have : (256 * numB l).testBit k = false := by
        rw [show 256 * numB l = numB l * 2 ^ 8 by omega, ← Nat.shiftLeft_eq, Nat.testBit_shiftLeft]; simp; omega
      simp [this]
    · have e1 : b.toNat.testBit k = false := Nat.testBit_lt_two_pow (Nat.lt_of_lt_of_le b.toNat_lt (Nat.pow_le_pow_right (n := 2) (i := 8) (by omega) (by omega)))
      have e2 : (2 ^ (i % 8)).testBit k = false := Nat.testBit_lt_two_pow (Nat.lt_of_lt_of_le (pow_lt i) (Nat.pow_le_pow_right (n := 2) (i := 8) (by omega) (by omega)))
      simp [e1, e2]
  | b :: l, t + 1, i, h => by
    have h' := numB_flip l t i (by simpa using h)
    simp only [List.set_cons_succ, List.getD_cons_succ, numB]
    rw [h']
    have hpow : 2 ^ (8 * (t + 1) + i % 8) = 256 * 2 ^ (8 * t + i % 8) := by rw [show 8 * (t + 1) + i % 8 = (8 * t + i % 8) + 8 by omega, Nat.pow_add]; omega
    rw [hpow]
    have h1 : b.toNat + 256 * numB l = 256 * numB l ||| b.toNat := by rw [Nat.add_comm]; exact (nat_join 8 (256 * numB l) b.toNat (by omega) b.toNat_lt).symm
    have h2 : b.toNat + 256 * (numB l ^^^ 2 ^ (8 * t + i % 8)) = 256 * (numB l ^^^ 2 ^ (8 * t + i % 8)) ||| b.toNat := by rw [Nat.add_comm]; exact (nat_join 8 _ b.toNat (by omega) b.toNat_lt).symm
    rw [h1, h2]
    apply Nat.eq_of_testBit_eq
    intro k
    have sh : ∀ x k, (256 * x).testBit k = (decide (8 ≤ k) && x.testBit (k - 8)) := fun x k => by
      rw [show 256 * x = x * 2 ^ 8 by omega, ← Nat.shiftLeft_eq, Nat.testBit_shiftLeft]
    simp only [Nat.testBit_or, Nat.testBit_xor, sh]
    by_cases hk : 8 ≤ k
    · have e1 : b.toNat.testBit k = false := Nat.testBit_lt_two_pow (Nat.lt_of_lt_of_le b.toNat_lt (Nat.pow_le_pow_right (n := 2) (i := 8) (by omega) (by omega)))
      simp [hk, e1]
    · simp [hk]

theorem drop_set_ge {α : Type} (l : List α) (t k : Nat) (v : α) (h : k ≤ t) : (l.set t v).drop k = (l.drop k).set (t - k) v := by
  rw [List.drop_set]; rw [if_neg (by omega)]
theorem drop_set_lt {α : Type} (l : List α) (t k : Nat) (v : α) (h : t < k) : (l.set t v).drop k = l.drop k := by
  rw [List.drop_set, if_pos h]
theorem take_set_ge {α : Type} (l : List α) (t k : Nat) (v : α) (h : k ≤ t) : (l.set t v).take k = l.take k := by
  rw [List.take_set, List.set_eq_of_length_le (by rw [List.length_take]; omega)]
theorem getD_take {l : List UInt8} {t k : Nat} (h : t < k) : (l.take k).getD t 0 = l.getD t 0 := by
  simp [List.getD, List.getElem?_take, h]
theorem getD_drop {l : List UInt8} {t k : Nat} (h : k ≤ t) : (l.drop k).getD (t - k) 0 = l.getD t 0 := by
  simp [List.getD, List.getElem?_drop, show k + (t - k) = t by omega]
theorem set_app_left {α : Type} (a b : List α) (t : Nat) (v : α) (h : t < a.length) : (a ++ b).set t v = a.set t v ++ b := by rw [List.set_append, if_pos h]
theorem set_app_right {α : Type} (a b : List α) (t : Nat) (v : α) (h : a.length ≤ t) : (a ++ b).set t v = a ++ b.set (t - a.length) v := by rw [List.set_append, if_neg (by omega)]

theorem off_flip {c : List UInt8} (hl : c.length = 64) {i : Nat} (hi : i < 512) : offB (flipB c i) = offB c ^^^ stepsC (stepsAt i) topC := by
  have hmod : i % 8 < 8 := Nat.mod_lt _ (by omega)
  have ht8 : (c.take 8).length = 8 := by rw [List.length_take]; omega
  have hd12 : (c.drop 12).length = 52 := by rw [List.length_drop]; omega
  have hml : (msgB c).length = 60 := by simp [msgB, ht8, hd12]
  have hxr : ∀ x y z : Nat, (x ^^^ z) ^^^ y = (x ^^^ y) ^^^ z := fun x y z => by rw [Nat.xor_assoc, Nat.xor_comm z, ← Nat.xor_assoc]
  by_cases h1 : i < 64
  · have hs : sumB (flipB c i) = sumB c := by unfold sumB flipB; rw [drop_set_lt _ _ _ _ (by omega)]
    have hm : msgB (flipB c i) = (msgB c).set (i / 8) ((msgB c).getD (i / 8) 0 ^^^ UInt8.ofNat (2 ^ (i % 8))) := by
      have eg : (msgB c).getD (i / 8) 0 = c.getD (i / 8) 0 := by
        unfold msgB; rw [List.getD_eq_getElem?_getD, List.getElem?_append_left (by omega), ← List.getD_eq_getElem?_getD, getD_take (by omega)]
      rw [eg]; unfold msgB flipB
      rw [set_app_left _ _ _ _ (by omega), drop_set_lt _ _ _ _ (by omega), List.take_set]
    unfold offB
    rw [hs, hm, rawC_set _ _ _ _ (by omega), hml, hxr]
    congr 1
    rw [← pow_steps (i % 8) (by omega), ← stepsC_add]
    congr 1; unfold stepsAt; rw [if_pos h1]; omega
  · by_cases h2 : i < 96
    · have hm : msgB (flipB c i) = msgB c := by unfold msgB flipB; rw [take_set_ge _ _ _ _ (by omega), drop_set_lt _ _ _ _ (by omega)]
      have hs : sumB (flipB c i) = sumB c ^^^ 2 ^ (i - 64) := by
        unfold sumB flipB
        rw [drop_set_ge _ _ _ _ (by omega), List.take_set]
        have hb4 : ((c.drop 8).take 4).length = 4 := by rw [List.length_take, List.length_drop]; omega
        have := numB_flip ((c.drop 8).take 4) (i / 8 - 8) i (by omega)
        rw [getD_take (by omega), getD_drop (by omega)] at this
        rw [this]; congr 2; omega
      unfold offB
      rw [hm, hs, ← Nat.xor_assoc 4294967295, ← Nat.xor_assoc]
      congr 1
      rw [← pow_steps (i - 64) (by omega)]
      congr 1; unfold stepsAt; rw [if_neg h1, if_pos h2]; omega
    · have hs : sumB (flipB c i) = sumB c := by unfold sumB flipB; rw [drop_set_ge _ _ _ _ (by omega), take_set_ge _ _ _ _ (by omega)]
      have hm : msgB (flipB c i) = (msgB c).set (i / 8 - 4) ((msgB c).getD (i / 8 - 4) 0 ^^^ UInt8.ofNat (2 ^ (i % 8))) := by
        have eg : (msgB c).getD (i / 8 - 4) 0 = c.getD (i / 8) 0 := by
          unfold msgB; rw [List.getD_eq_getElem?_getD, List.getElem?_append_right (by omega), ← List.getD_eq_getElem?_getD, ht8, show i / 8 - 4 - 8 = i / 8 - 12 by omega, getD_drop (by omega)]
        rw [eg]; unfold msgB flipB
        rw [set_app_right _ _ _ _ (by omega), drop_set_ge _ _ _ _ (by omega), take_set_ge _ _ _ _ (by omega), ht8, show i / 8 - 4 - 8 = i / 8 - 12 by omega]
      unfold offB
      rw [hs, hm, rawC_set _ _ _ _ (by omega), hml, hxr]
      congr 1
      rw [← pow_steps (i % 8) (by omega), ← stepsC_add]
      congr 1; unfold stepsAt; rw [if_neg h1, if_neg h2]; omega

theorem off_bytes (p : PartM) : offB (bytesB p) = 0 := by
  have h8 := length_headB p
  have e4 := length_leB 4 (crcN (headB p ++ p.d))
  have e1 : (bytesB p).take 8 = headB p := by
    unfold bytesB; rw [List.append_assoc, List.take_append_of_le_length (by omega), List.take_of_length_le (by omega)]
  have d8 : (bytesB p).drop 8 = leB 4 (crcN (headB p ++ p.d)) ++ p.d := by
    unfold bytesB; rw [List.append_assoc, List.drop_append, List.drop_of_length_le (by omega), List.nil_append, h8, Nat.sub_self, List.drop_zero]
  have d12 : (bytesB p).drop 12 = p.d := by
    rw [show 12 = 8 + 4 from rfl, ← List.drop_drop, d8, List.drop_append, List.drop_of_length_le (by omega), List.nil_append, e4, Nat.sub_self, List.drop_zero]
  unfold offB msgB sumB
  rw [e1, d12, d8, List.take_append_of_le_length (by omega), List.take_of_length_le (by omega), numB_leB_lt (by have := crcN_lt (headB p ++ p.d); omega)]
  unfold crcN
  rw [Nat.xor_comm (rawC _ _) 4294967295, ← Nat.xor_assoc 4294967295 4294967295, Nat.xor_self, Nat.zero_xor, Nat.xor_self]
theorem off_parse {c : List UInt8} {p : PartM} (h : parseB c = some p) : offB c = 0 := by
  unfold parseB at h
  split at h
  case isFalse => cases h
  rename_i hh
  have := off_bytes (readP c)
  rw [hh.2.2] at this
  exact this
theorem flip_flip {c : List UInt8} {i : Nat} (h : i / 8 < c.length) : flipB (flipB c i) i = c := by
  unfold flipB
  have e1 : (c.set (i / 8) (c.getD (i / 8) 0 ^^^ UInt8.ofNat (2 ^ (i % 8)))).getD (i / 8) 0 = c.getD (i / 8) 0 ^^^ UInt8.ofNat (2 ^ (i % 8)) := by
    simp [List.getD, List.getElem?_set, h]
  rw [e1, List.set_set]
  have e2 : c.getD (i / 8) 0 ^^^ UInt8.ofNat (2 ^ (i % 8)) ^^^ UInt8.ofNat (2 ^ (i % 8)) = c.getD (i / 8) 0 := by
    apply UInt8.toNat_inj.1
    rw [xor_toNat, xor_toNat, Nat.xor_assoc, Nat.xor_self, Nat.xor_zero]
  rw [e2]
  apply List.ext_getElem?
  intro k
  rw [List.getElem?_set]
  by_cases hk : i / 8 = k
  · subst hk; rw [if_pos rfl, if_pos h]; simp [List.getD, List.getElem?_eq_getElem h]
  · rw [if_neg hk]
theorem none_of_off {c : List UInt8} (h : offB c ≠ 0) : parseB c = none := by
  cases hp : parseB c with
  | none => rfl
  | some p => exact absurd (off_parse hp) h
/-- One bit another one. -/
theorem turn_one {p : PartM} (h : okB p = true) {i : Nat} (hi : i < 512) : parseB (flipB (bytesB p) i) = none := by
  have hl := length_bytesB (okB_iff.1 h).2.2.2.2.2
  apply none_of_off
  rw [off_flip hl hi, off_bytes, Nat.zero_xor]
  exact steps_nz _
/-- Two bits others. -/
theorem turn_two {p : PartM} (h : okB p = true) {i j : Nat} (hi : i < 512) (hj : j < 512) (hij : i ≠ j) : parseB (flipB (flipB (bytesB p) i) j) = none := by
  have hl := length_bytesB (okB_iff.1 h).2.2.2.2.2
  apply none_of_off
  rw [off_flip (by rw [length_flipB]; exact hl) hj, off_flip hl hi, off_bytes, Nat.zero_xor]
  intro e
  have e2 : stepsC (stepsAt i) topC = stepsC (stepsAt j) topC := by
    have := congrArg (· ^^^ stepsC (stepsAt j) topC) e
    simp only [Nat.xor_assoc, Nat.xor_self, Nat.xor_zero, Nat.zero_xor] at this
    exact this
  rcases Nat.lt_trichotomy (stepsAt i) (stepsAt j) with hlt | heq | hgt
  · exact steps_ne hlt (stepsAt_le hj) e2
  · exact hij (stepsAt_inj hi hj heq)
  · exact steps_ne hgt (stepsAt_le hi) e2.symm
theorem turn_back {p : PartM} (h : okB p = true) {i : Nat} (hi : i < 512) : parseB (flipB (flipB (bytesB p) i) i) = some p := by
  have hl := length_bytesB (okB_iff.1 h).2.2.2.2.2
  rw [flip_flip (by omega), parse_bytes h]

end Go.Proofs.Ytiegkdkbkkbjpaa
