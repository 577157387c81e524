/-
  The program's small functions: isLetter, isDigit, isBlank, isWord; firstRow; Name.
-/
import Derived.Test.YtgkddbpfjbgelaaLxA
namespace Go.Proofs.Ytgkddbpfjbgelaa
set_option maxRecDepth 100000
set_option linter.unusedVariables false
open Go.RowKit Go.Sort

def letR (r : Nat) : Bool := decide (97 ≤ r) && decide (r ≤ 122)
def digR (r : Nat) : Bool := decide (48 ≤ r) && decide (r ≤ 57)
def blankR (r : Nat) : Bool := decide (r = 32) || decide (r = 9) || decide (r = 10)

/-- What a range over a text hands out at a place. -/
theorem rune_at (s : List UInt8) (k : Nat) (hk : k < s.length) : ∃ r n : Nat, Utf8.decode ⟨s.toArray⟩ k = (r, n) ∧ r ≤ 2147483647 ∧ 1 ≤ n ∧ (s[k].toNat < 128 → n = 1) ∧ letR r = letB s[k] ∧ digR r = digB s[k] ∧ blankR r = blankB s[k] ∧ (r = 123 ↔ s[k].toNat = 123) ∧ (r = 125 ↔ s[k].toNat = 125) := by
  have hk' : k < (⟨s.toArray⟩ : ByteArray).size := by simpa [ByteArray.size] using hk
  have hget : (⟨s.toArray⟩ : ByteArray)[k]'hk' = s[k] := rfl
  have hle := decode_le ⟨s.toArray⟩ k
  have hlt := s[k].toNat_lt
  by_cases ha : s[k].toNat < 128
  · have h := decode_ascii ⟨s.toArray⟩ k hk' (by rw [hget]; exact ha)
    rw [hget] at h
    refine ⟨_, _, h, by omega, Nat.le_refl _, fun _ => rfl, rfl, rfl, rfl, Iff.rfl, Iff.rfl⟩
  · have h := decode_high ⟨s.toArray⟩ k hk' (by rw [hget]; omega)
    generalize hd : Utf8.decode ⟨s.toArray⟩ k = d at *
    obtain ⟨r, n⟩ := d
    simp only at h hle
    refine ⟨r, n, rfl, hle, h.2, fun h => absurd h ha, ?_, ?_, ?_, by omega, by omega⟩
    · have a1 : ¬ r ≤ 122 := by omega
      have a2 : ¬ s[k].toNat ≤ 122 := by omega
      simp [letR, letB, a1, a2]
    · have a1 : ¬ r ≤ 57 := by omega
      have a2 : ¬ s[k].toNat ≤ 57 := by omega
      simp [digR, digB, a1, a2]
    · have a1 : ¬ r = 32 := by omega
      have a2 : ¬ r = 9 := by omega
      have a3 : ¬ r = 10 := by omega
      have b1 : ¬ s[k].toNat = 32 := by omega
      have b2 : ¬ s[k].toNat = 9 := by omega
      have b3 : ¬ s[k].toNat = 10 := by omega
      simp [blankR, blankB, a1, a2, a3, b1, b2, b3]

theorem aln_ascii {c : UInt8} (h : alnB c = true) : c.toNat < 128 := by
  simp [alnB, letB, digB] at h
  omega

theorem extract_list (s : List UInt8) (i j : Nat) : (⟨s.toArray⟩ : ByteArray).extract i j = ⟨((s.drop i).take (j - i)).toArray⟩ := by
  apply ByteArray.ext
  simp [ByteArray.data_extract, List.take_drop, List.extract_toArray]

end Go.Proofs.Ytgkddbpfjbgelaa
