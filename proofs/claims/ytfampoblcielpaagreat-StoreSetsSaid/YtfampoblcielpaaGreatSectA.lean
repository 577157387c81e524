/-
  What chapter 2 says, by itself: the sum, bytes of numbers, the bytes of a Part, how bytes are cut and joined. No program is named here.
-/
import Derived.Test.YtfampoblcielpaaGreatBase
import Derived.Laws.BitsAllLaws
namespace Go.Proofs.YtfampoblcielpaaGreat
set_option linter.unusedVariables false
set_option maxRecDepth 100000
open Go.RowKit

/-- One bit of the sum. -/
def stepC (c : Nat) : Nat := (c / 2) ^^^ (if c % 2 = 1 then 3988292384 else 0)
theorem stepC_lt {c : Nat} (h : c < 4294967296) : stepC c < 4294967296 := by
  unfold stepC; exact Nat.xor_lt_two_pow (n := 32) (by omega) (by split <;> decide)
def stepsC : Nat → Nat → Nat
  | 0, c => c
  | n + 1, c => stepC (stepsC n c)
theorem stepsC_lt : ∀ (n : Nat) {c : Nat}, c < 4294967296 → stepsC n c < 4294967296
  | 0, _, h => h
  | n + 1, _, h => stepC_lt (stepsC_lt n h)
def byteC (c : Nat) (b : UInt8) : Nat := stepsC 8 (c ^^^ b.toNat)
theorem xor_lt32 {a b : Nat} (ha : a < 4294967296) (hb : b < 4294967296) : a ^^^ b < 4294967296 := Nat.xor_lt_two_pow (n := 32) ha hb
theorem byteC_lt {c : Nat} (b : UInt8) (h : c < 4294967296) : byteC c b < 4294967296 := stepsC_lt 8 (xor_lt32 h (by have := b.toNat_lt; omega))
def rawC (c : Nat) (l : List UInt8) : Nat := l.foldl byteC c
theorem rawC_lt : ∀ (l : List UInt8) {c : Nat}, c < 4294967296 → rawC c l < 4294967296
  | [], _, h => h
  | b :: l, _, h => rawC_lt l (byteC_lt b h)
theorem rawC_snoc (c : Nat) (l : List UInt8) (b : UInt8) : rawC c (l ++ [b]) = byteC (rawC c l) b := by simp [rawC]
theorem take_snoc {α : Type} (l : List α) (k : Nat) (h : k < l.length) : l.take (k + 1) = l.take k ++ [l[k]] := by
  rw [List.take_add_one, List.getElem?_eq_getElem h]; rfl
theorem rawC_take (c : Nat) (l : List UInt8) (k : Nat) (h : k < l.length) : rawC c (l.take (k + 1)) = byteC (rawC c (l.take k)) l[k] := by
  rw [take_snoc l k h, rawC_snoc]
/-- The sum of Ethernet. -/
def crcN (l : List UInt8) : Nat := rawC 4294967295 l ^^^ 4294967295
theorem crcN_lt (l : List UInt8) : crcN l < 4294967296 := xor_lt32 (rawC_lt l (by omega)) (by omega)

/-- A slice of bytes that came in, or lies somewhere: nil, empty or not. -/
def Src (w : World) (a : Option Addr) (len : Nat) (l : List UInt8) : Prop :=
  l.length = len ∧ (0 < len → ∃ b o, a = some ⟨b, o, none⟩ ∧ b < w.heap.size ∧ w.rangeAt b o (bv l))
theorem Src.keep {S : List Nat} {w w' : World} {a : Option Addr} {len : Nat} {l : List UInt8} (h : Src w a len l) (ho : Only S w w') (hs : 0 < len → ∀ b o, a = some ⟨b, o, none⟩ → b ∉ S) : Src w' a len l :=
  ⟨h.1, fun hp => by obtain ⟨b, o, rfl, hb, hr⟩ := h.2 hp; exact ⟨b, o, rfl, Nat.lt_of_lt_of_le hb ho.size, rangeAt_only hr ho hb (hs hp b o rfl)⟩⟩
theorem Src.lt {w : World} {a : Option Addr} {len : Nat} {l : List UInt8} (h : Src w a len l) (hp : 0 < len) {b o : Nat} (e : a = some ⟨b, o, none⟩) : b < w.heap.size := by
  obtain ⟨b', o', e', hb, _⟩ := h.2 hp; rw [e'] at e; injection e with e; injection e with e1; omega
theorem Src.more {w w' : World} {a : Option Addr} {len : Nat} {l : List UInt8} (h : Src w a len l) (ho : Only [] w w') : Src w' a len l := h.keep ho (by simp)
theorem Src.cell {w : World} {b o : Nat} {l : List UInt8} (h : w.rangeAt b o (bv l)) (k : Nat) (hk : k < l.length) : w.cell? ⟨b, o + k, none⟩ = some (.int .u8 (l[k]'hk).toNat) :=
  h k _ (by simp [bv, List.getElem?_eq_getElem hk])

theorem bv_append (a b : List UInt8) : bv (a ++ b) = bv a ++ bv b := by simp [bv]
theorem bv_drop (a : List UInt8) (n : Nat) : bv (a.drop n) = (bv a).drop n := by simp [bv]
theorem bv_take (a : List UInt8) (n : Nat) : bv (a.take n) = (bv a).take n := by simp [bv]
theorem bv_set (a : List UInt8) (n : Nat) (v : UInt8) : bv (a.set n v) = (bv a).set n (.int .u8 v.toNat) := by simp [bv]

/-- A number's bytes, the lowest first. -/
def leB (k n : Nat) : List UInt8 := (List.range k).map fun i => UInt8.ofNat (n / 256 ^ i)
theorem length_leB (k n : Nat) : (leB k n).length = k := by simp [leB]
theorem leB_succ (k n : Nat) : leB (k + 1) n = leB k n ++ [UInt8.ofNat (n / 256 ^ k)] := by simp [leB, List.range_succ]
def numB : List UInt8 → Nat
  | [] => 0
  | b :: l => b.toNat + 256 * numB l
theorem numB_append : ∀ a b : List UInt8, numB (a ++ b) = numB a + 256 ^ a.length * numB b
  | [], b => by simp [numB]
  | x :: a, b => by
    have := numB_append a b
    simp only [List.cons_append, numB, this, List.length_cons, Nat.pow_succ, Nat.mul_add, Nat.mul_comm (256 ^ a.length) 256, Nat.mul_assoc, Nat.add_assoc]
theorem numB_lt : ∀ l : List UInt8, numB l < 256 ^ l.length
  | [] => by simp [numB]
  | x :: a => by
    have := numB_lt a
    have hx := x.toNat_lt
    simp only [numB, List.length_cons, Nat.pow_succ]; omega
theorem numB_leB : ∀ k n : Nat, numB (leB k n) = n % 256 ^ k
  | 0, n => by simp [leB, numB, Nat.mod_one]
  | k + 1, n => by
    rw [leB_succ, numB_append, numB_leB k n, length_leB, Nat.mod_pow_succ]
    simp [numB]
theorem numB_leB_lt {k n : Nat} (h : n < 256 ^ k) : numB (leB k n) = n := by rw [numB_leB, Nat.mod_eq_of_lt h]
theorem leB_congr : ∀ (k : Nat) {m n : Nat}, m % 256 ^ k = n % 256 ^ k → leB k m = leB k n
  | 0, _, _, _ => by simp [leB]
  | k + 1, m, n, h => by
    have h1 : m % 256 ^ k = n % 256 ^ k := by
      have := congrArg (· % 256 ^ k) h
      simpa [Nat.pow_succ, Nat.mod_mul_right_mod] using this
    have h2 : m / 256 ^ k % 256 = n / 256 ^ k % 256 := by
      rw [Nat.mod_pow_succ, Nat.mod_pow_succ, h1] at h
      have hp : 0 < 256 ^ k := Nat.pow_pos (by omega)
      exact Nat.eq_of_mul_eq_mul_left hp (by omega)
    rw [leB_succ, leB_succ, leB_congr k h1]
    congr 2
    apply UInt8.toNat_inj.1
    simpa using h2
theorem leB_cons (k : Nat) (b : UInt8) (n : Nat) : leB (k + 1) (b.toNat + 256 * n) = b :: leB k n := by
  have hb := b.toNat_lt
  have e0 : UInt8.ofNat (b.toNat + 256 * n) = b := by apply UInt8.toNat_inj.1; simp
  simp only [leB, List.range_succ_eq_map, List.map_cons, List.map_map, Nat.pow_zero, Nat.div_one, e0]
  congr 1
  apply List.map_congr_left
  intro i _
  simp only [Function.comp, Nat.pow_succ]
  congr 1
  rw [Nat.mul_comm (256 ^ i) 256, ← Nat.div_div_eq_div_mul]
  congr 1
  omega
theorem leB_numB : ∀ l : List UInt8, leB l.length (numB l) = l
  | [] => by simp [leB]
  | b :: l => by rw [List.length_cons, numB, leB_cons, leB_numB l]

/-- A Part. -/
structure PartM where
  g : Int
  r : Int
  n : Int
  o : Int
  d : List UInt8
theorem PartM.same {p q : PartM} (h1 : p.g = q.g) (h2 : p.r = q.r) (h3 : p.n = q.n) (h4 : p.o = q.o) (h5 : p.d = q.d) : p = q := by
  cases p; cases q; simp_all
def mayB (g r : Int) : Bool := decide (1 ≤ g) && decide (g ≤ 4294967295) && decide (0 ≤ r) && decide (r ≤ 65535)
def okB (p : PartM) : Bool := mayB p.g p.r && decide (1 ≤ p.o) && decide (p.o ≤ 255) && decide (0 ≤ p.n) && decide (p.n < p.o) && decide (p.d.length = 52)
theorem mayB_iff {g r : Int} : mayB g r = true ↔ 1 ≤ g ∧ g ≤ 4294967295 ∧ 0 ≤ r ∧ r ≤ 65535 := by simp [mayB, and_assoc]
theorem okB_iff {p : PartM} : okB p = true ↔ (1 ≤ p.g ∧ p.g ≤ 4294967295 ∧ 0 ≤ p.r ∧ p.r ≤ 65535) ∧ 1 ≤ p.o ∧ p.o ≤ 255 ∧ 0 ≤ p.n ∧ p.n < p.o ∧ p.d.length = 52 := by
  simp [okB, mayB, and_assoc]
def headB (p : PartM) : List UInt8 := leB 4 p.g.toNat ++ leB 2 p.r.toNat ++ leB 1 p.n.toNat ++ leB 1 p.o.toNat
theorem length_headB (p : PartM) : (headB p).length = 8 := by simp [headB, length_leB]
def bytesB (p : PartM) : List UInt8 := headB p ++ leB 4 (crcN (headB p ++ p.d)) ++ p.d
theorem length_bytesB {p : PartM} (h : p.d.length = 52) : (bytesB p).length = 64 := by simp [bytesB, length_headB, length_leB, h]
def readP (l : List UInt8) : PartM := ⟨numB (l.take 4), numB ((l.drop 4).take 2), numB ((l.drop 6).take 1), numB ((l.drop 7).take 1), l.drop 12⟩
theorem read_bytes {p : PartM} (h : okB p = true) : readP (bytesB p) = p := by
  obtain ⟨⟨h1, h2, h3, h4⟩, h5, h6, h7, h8, h9⟩ := okB_iff.1 h
  have a4 := length_leB 4 p.g.toNat
  have a2 := length_leB 2 p.r.toNat
  have a1 := length_leB 1 p.n.toNat
  have a0 := length_leB 1 p.o.toNat
  have ac := length_leB 4 (crcN (headB p ++ p.d))
  have n4 : numB (leB 4 p.g.toNat) = p.g.toNat := numB_leB_lt (by omega)
  have n2 : numB (leB 2 p.r.toNat) = p.r.toNat := numB_leB_lt (by omega)
  have n1 : numB (leB 1 p.n.toNat) = p.n.toNat := numB_leB_lt (by omega)
  have n0 : numB (leB 1 p.o.toNat) = p.o.toNat := numB_leB_lt (by omega)
  have e1 : (bytesB p).take 4 = leB 4 p.g.toNat := by
    simp only [bytesB, headB, List.append_assoc]; rw [List.take_append_of_le_length (by omega), List.take_of_length_le (by omega)]
  have d4 : (bytesB p).drop 4 = leB 2 p.r.toNat ++ (leB 1 p.n.toNat ++ (leB 1 p.o.toNat ++ (leB 4 (crcN (headB p ++ p.d)) ++ p.d))) := by
    simp only [bytesB, headB, List.append_assoc]; rw [List.drop_append_of_le_length (by omega), List.drop_of_length_le (by omega)]; rfl
  have d6 : (bytesB p).drop 6 = leB 1 p.n.toNat ++ (leB 1 p.o.toNat ++ (leB 4 (crcN (headB p ++ p.d)) ++ p.d)) := by
    rw [show 6 = 4 + 2 from rfl, ← List.drop_drop, d4, List.drop_append_of_le_length (by omega), List.drop_of_length_le (by omega)]; rfl
  have d7 : (bytesB p).drop 7 = leB 1 p.o.toNat ++ (leB 4 (crcN (headB p ++ p.d)) ++ p.d) := by
    rw [show 7 = 6 + 1 from rfl, ← List.drop_drop, d6, List.drop_append_of_le_length (by omega), List.drop_of_length_le (by omega)]; rfl
  have d8 : (bytesB p).drop 8 = leB 4 (crcN (headB p ++ p.d)) ++ p.d := by
    rw [show 8 = 7 + 1 from rfl, ← List.drop_drop, d7, List.drop_append_of_le_length (by omega), List.drop_of_length_le (by omega)]; rfl
  have d12 : (bytesB p).drop 12 = p.d := by
    rw [show 12 = 8 + 4 from rfl, ← List.drop_drop, d8, List.drop_append_of_le_length (by omega), List.drop_of_length_le (by omega)]; rfl
  apply PartM.same
  · simp only [readP]; rw [e1, n4]; omega
  · simp only [readP]; rw [d4, List.take_append_of_le_length (by omega), List.take_of_length_le (by omega), n2]; omega
  · simp only [readP]; rw [d6, List.take_append_of_le_length (by omega), List.take_of_length_le (by omega), n1]; omega
  · simp only [readP]; rw [d7, List.take_append_of_le_length (by omega), List.take_of_length_le (by omega), n0]; omega
  · simp only [readP]; exact d12

def parseB (l : List UInt8) : Option PartM := if l.length = 64 ∧ okB (readP l) = true ∧ bytesB (readP l) = l then some (readP l) else none
theorem parse_bytes {p : PartM} (h : okB p = true) : parseB (bytesB p) = some p := by
  have h9 := (okB_iff.1 h).2.2.2.2.2
  unfold parseB
  rw [read_bytes h, if_pos ⟨length_bytesB h9, h, rfl⟩]

end Go.Proofs.YtfampoblcielpaaGreat
