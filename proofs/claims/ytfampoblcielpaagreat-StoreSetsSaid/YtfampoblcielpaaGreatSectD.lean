/-
  lay, number, areNoughts, bytes.Equal; the reference's le and num: by contracts.
-/
import Derived.Test.YtfampoblcielpaaGreatSectC
namespace Go.Proofs.YtfampoblcielpaaGreat
set_option linter.unusedVariables false
set_option maxRecDepth 100000
open Go.RowKit

/-- Bytes with others laid over them from o on. -/
def putB (L : List UInt8) (o : Nat) (M : List UInt8) : List UInt8 := L.take o ++ (M ++ L.drop (o + M.length))
theorem putB_nil (L : List UInt8) (o : Nat) : putB L o [] = L := by simp [putB]
theorem length_putB (L : List UInt8) (o : Nat) (M : List UInt8) (h : o + M.length ≤ L.length) : (putB L o M).length = L.length := by simp [putB]; omega
theorem putB_snoc (L : List UInt8) (o : Nat) (M : List UInt8) (x : UInt8) (h : o + M.length < L.length) : (putB L o M).set (o + M.length) x = putB L o (M ++ [x]) := by
  have hto : (L.take o).length = o := by rw [List.length_take]; omega
  unfold putB
  rw [List.set_append_right _ _ (by omega), hto, Nat.add_sub_cancel_left, List.set_append_right _ _ (Nat.le_refl _), Nat.sub_self, List.drop_eq_getElem_cons h]
  simp [Nat.add_assoc]
theorem bv_getElem (L : List UInt8) (i : Nat) (h : i < L.length) : (bv L).toArray[i]? = some (.int .u8 (L[i]'h).toNat) := by simp [bv, List.getElem?_eq_getElem h]
theorem bv_setArr (L : List UInt8) (i : Nat) (x : UInt8) : (bv L).toArray.setIfInBounds i (.int .u8 x.toNat) = (bv (L.set i x)).toArray := by rw [bv_set]; simp

theorem byte_of (m : Nat) : (m : Int) % 256 = ((UInt8.ofNat m).toNat : Int) := by simp
theorem blk_put {w : World} {g i : Nat} {L : List UInt8} (h : IsBlk w g (.cells (bv L).toArray 5)) (m : Nat) :
    IsBlk (w.setCell ⟨g, i, none⟩ (.int .u8 ((m : Int) % 256))) g (.cells (bv (L.set i (UInt8.ofNat m))).toArray 5) := by
  rw [byte_of, ← bv_setArr]; exact h.put i _

set_option maxHeartbeats 1000000 in
theorem lay_any (w : World) (g o k cap n : Nat) (L : List UInt8) (hb : IsBlk w g (.cells (bv L).toArray 5)) (ho : o + k ≤ L.length) (hk : k ≤ 1000) (hn : n < 4294967296) :
    Calls Tryz.prog 57 #[.slice (some ⟨g, o, none⟩) k cap, .int .u32 n] w fun e w' => e = .returned (.tuple #[]) ∧ IsBlk w' g (.cells (bv (putB L o (leB k n))).toArray 5) ∧ Only [g] w w' := by
  have Hb := Lib.hid hb
  clear hb
  go_enter Tryz.func57, Tryz.ntmps57
  go_wp2
  go_loopw [1, 7] (fun nn i wr => ∃ j : Nat, j ≤ k ∧ i = .int .i64 j ∧ nn = .int .u32 (n / 256 ^ j : Nat) ∧ IsBlk wr g (.cells (bv (putB L o (leB j n))).toArray 5) ∧ Only [g] w wr) (fun _ i _ => k - (intOf i).toNat)
  case atStart => exact ⟨0, Nat.zero_le _, rfl, by simp, by simpa [leB, putB_nil] using Hb.out, Only.refl _ _⟩
  case round =>
    obtain ⟨j, hj, rfl, rfl, hbj, hOj⟩ := hrel
    by_cases hlt : j < k
    · have hlti : (j : Int) < (k : Int) := by omega
      have hlen : o + j < (putB L o (leB j n)).length := by rw [length_putB _ _ _ (by rw [length_leB]; omega)]; omega
      have hc : wr.cell? ⟨g, o + j, none⟩ = some (.int .u8 ((putB L o (leB j n))[o + j]'hlen).toNat) := by rw [hbj.cell, bv_getElem _ _ hlen]
      have hf := hbj.notFrozen (o + j)
      have hput := Lib.hid (blk_put (i := o + j) hbj (n / 256 ^ j))
      have hset := putB_snoc L o (leB j n) (UInt8.ofNat (n / 256 ^ j)) (by rw [length_leB]; omega)
      rw [length_leB, ← leB_succ] at hset
      have Hset := Lib.hid hset
      have hdiv : Hid (n / 256 ^ (j + 1) = n / 256 ^ j / 256) := Lib.hid (by rw [Nat.pow_succ, Nat.div_div_eq_div_mul])
      have hm : n / 256 ^ j < 4294967296 := Nat.lt_of_le_of_lt (Nat.div_le_self _ _) hn
      clear hset hbj
      generalize n / 256 ^ j = m at *
      go_wp2
      go_roundw
      case rel => exact ⟨j + 1, by omega, by go_num, by rw [hdiv.out]; go_num, by rw [← Hset.out]; exact hput.out, hOj.setCell (by simp) _⟩
      case measure => simp [intOf]; omega
    · have hge : ¬ (j : Int) < (k : Int) := by omega
      obtain rfl : j = k := by omega
      go_wp2
      go_end0
      exact ⟨rfl, hbj, hOj⟩

theorem or_join (k m c : Nat) (hm : m < 2 ^ k) : m ||| c * 2 ^ k = m + 2 ^ k * c := by
  rw [Nat.or_comm, nat_join k (c * 2 ^ k) m (by simp) hm, Nat.mul_comm]; omega
theorem or32 (k m v p : Nat) (hp : p = 2 ^ k) (hm : m < p) (hv : v * p < 4294967296) (hm2 : p ≤ 4294967296) : bits .or .u32 (m : Int) ((v : Int) * (p : Int)) = ((m + p * v : Nat) : Int) := by
  rw [← Int.natCast_mul, u32_or_nat m (v * p) (by omega) hv]
  subst hp
  rw [or_join k m v hm]
theorem numB_take (l : List UInt8) (k : Nat) (h : k < l.length) : numB (l.take (k + 1)) = numB (l.take k) + 256 ^ k * l[k].toNat := by
  have e : (l.take k).length = k := by rw [List.length_take]; omega
  rw [take_snoc l k h, numB_append, e]; simp [numB]

set_option maxHeartbeats 2000000 in
theorem number_any (w : World) (a : Option Addr) (len cap : Nat) (l : List UInt8) (h : Src w a len l) (hl : len ≤ 4) :
    Calls Tryz.prog 71 #[.slice a len cap] w fun e w' => e = .returned (.int .u32 (numB l)) ∧ w = w' := by
  have H := Lib.hid h
  clear h
  go_enter Tryz.func71, Tryz.ntmps71
  go_wp2
  go_loopw [3, 8] (fun s i wr => ∃ k : Nat, k ≤ len ∧ i = .int .i64 k ∧ s = .int .u32 (numB (l.take k)) ∧ w = wr) (fun _ i _ => len - (intOf i).toNat)
  case atStart => exact ⟨0, Nat.zero_le _, rfl, rfl, rfl⟩
  case round =>
    obtain ⟨k, hk, rfl, rfl, rfl⟩ := hrel
    by_cases hlt : k < len
    · have hlti : (k : Int) < (len : Int) := by omega
      have hkl : k < l.length := by rw [H.out.1]; exact hlt
      obtain ⟨b, o, rfl, hbb, hr⟩ := H.out.2 (by omega)
      have hc := Src.cell hr k hkl
      have hs := Lib.hid (numB_take l k hkl)
      have hb := numB_lt (l.take k)
      rw [show (l.take k).length = k by rw [List.length_take]; omega] at hb
      generalize hv : l[k] = v at *
      have hvb : v.toNat < 256 := v.toNat_lt
      clear hv
      generalize numB (l.take k) = m at *
      rcases (show k = 0 ∨ k = 1 ∨ k = 2 ∨ k = 3 by omega) with rfl | rfl | rfl | rfl
      all_goals
        try simp only [Nat.add_zero] at hc
        go_wp2
        go_roundw
        case rel =>
          first
            | exact ⟨1, by omega, by go_num, by rw [hs.out]; have := or32 0 m v.toNat 1 rfl (by omega) (by omega) (by omega); simp only [Int.natCast_one, Int.mul_one] at this; rw [this], trivial⟩
            | exact ⟨2, by omega, by go_num, by rw [hs.out]; have := or32 8 m v.toNat 256 rfl (by omega) (by omega) (by omega); exact congrArg _ this, trivial⟩
            | exact ⟨3, by omega, by go_num, by rw [hs.out]; have := or32 16 m v.toNat 65536 rfl (by omega) (by omega) (by omega); exact congrArg _ this, trivial⟩
            | exact ⟨4, by omega, by go_num, by rw [hs.out]; have := or32 24 m v.toNat 16777216 rfl (by omega) (by omega) (by omega); exact congrArg _ this, trivial⟩
        case measure => simp [intOf]; omega
    · have hge : ¬ (k : Int) < (len : Int) := by omega
      obtain rfl : k = len := by omega
      have ht : Hid (l.take k = l) := Lib.hid (List.take_of_length_le (by rw [H.out.1]; exact Nat.le_refl _))
      go_wp2
      go_ret
      refine ⟨ret_int ?_, rfl⟩
      rw [ht.out]

set_option maxHeartbeats 1000000 in
theorem areNoughts_any (w : World) (a : Option Addr) (len cap : Nat) (l : List UInt8) (h : Src w a len l) (hl : len ≤ 1000000) :
    Calls Tryz.prog 83 #[.slice a len cap] w fun e w' => e = .returned (.bool (l.all (· == 0))) ∧ w = w' := by
  have H := Lib.hid h
  clear h
  go_enter Tryz.func83, Tryz.ntmps83
  go_wp2
  go_loopw [7] (fun i wr => ∃ k : Nat, k ≤ len ∧ i = .int .i64 k ∧ (l.take k).all (· == 0) = true ∧ w = wr) (fun i _ => len - (intOf i).toNat)
  case atStart => exact ⟨0, Nat.zero_le _, rfl, by simp, rfl⟩
  case round =>
    obtain ⟨k, hk, rfl, hall, rfl⟩ := hrel
    have Hall := Lib.hid hall
    clear hall
    by_cases hlt : k < len
    · have hlti : (k : Int) < (len : Int) := by omega
      have hkl : k < l.length := by rw [H.out.1]; exact hlt
      obtain ⟨b, o, rfl, hbb, hr⟩ := H.out.2 (by omega)
      have hc := Src.cell hr k hkl
      by_cases hz : l[k] = 0
      · have hs : Hid ((l.take (k + 1)).all (· == 0) = true) := Lib.hid (by rw [take_snoc l k hkl, List.all_append, Hall.out, hz]; rfl)
        rw [hz] at hc
        clear hz
        go_wp2
        go_roundw
        case rel => exact ⟨k + 1, by omega, by go_num, hs.out, trivial⟩
        case measure => simp [intOf]; omega
      · have hs : Hid (l.all (· == 0) = false) := Lib.hid (by
          rw [List.all_eq_false]
          exact ⟨l[k], List.getElem_mem hkl, by simpa using hz⟩)
        have hne : (((l[k]).toNat : Int) != 0) = true := by
          have : l[k].toNat ≠ 0 := fun e => hz (UInt8.toNat_inj.1 e)
          simp; omega
        clear hz
        generalize l[k] = v at *
        go_wp2
        go_ret
        exact ⟨ret_bool hs.out.symm, rfl⟩
    · have hge : ¬ (k : Int) < (len : Int) := by omega
      obtain rfl : k = len := by omega
      have ht : Hid (l.take k = l) := Lib.hid (List.take_of_length_le (by rw [H.out.1]; exact Nat.le_refl _))
      go_wp2
      go_ret
      refine ⟨ret_bool ?_, rfl⟩
      have := Hall.out
      rw [ht.out] at this
      exact this.symm

/-- Bytes as a string. -/
def strB (l : List UInt8) : ByteArray := ⟨l.toArray⟩
theorem strB_inj {l m : List UInt8} (h : strB l = strB m) : l = m := by simpa [strB] using h
theorem conv_str (w : World) (g o cap len : Nat) (l : List UInt8) (hl : l.length = len) (hr : w.rangeAt g o (bv l)) : (convert 37 9 (.slice (some ⟨g, o, none⟩) len cap)).run Tryz.prog w = .ok (.string (strB l)) w := by
  have := run_convert_bytes_arg (P := Tryz.prog) w 37 5 Tryz.underlying37 Tryz.underlying5 g o len cap (l.map fun b => (b.toNat : Int)) (by simpa using hl) (fun i hi => by
    have hi' : i < l.length := by omega
    rw [hr i (.int .u8 l[i].toNat) (by simp [bv, List.getElem?_eq_getElem hi'])]
    simp [List.getD, List.getElem?_eq_getElem hi']) 9 Tryz.underlying9
  rw [this]
  congr 2
  simp only [strOfNums, strB, List.map_map]
  have e1 : l.map ((fun n : Int => UInt8.ofNat n.toNat) ∘ fun b : UInt8 => (b.toNat : Int)) = l := by
    have : ((fun n : Int => UInt8.ofNat n.toNat) ∘ fun b : UInt8 => (b.toNat : Int)) = id := by funext b; simp
    rw [this, List.map_id]
  rw [e1]
theorem conv_src (w : World) (a : Option Addr) (len cap : Nat) (l : List UInt8) (h : Src w a len l) : (convert 37 9 (.slice a len cap)).run Tryz.prog w = .ok (.string (strB l)) w := by
  rcases Nat.eq_zero_or_pos len with h0 | h0
  · subst h0
    obtain rfl : l = [] := List.eq_nil_of_length_eq_zero h.1
    rcases a with _ | ad
    · exact run_convert_bytes_nil (P := Tryz.prog) w 37 5 Tryz.underlying37 Tryz.underlying5 0 cap 9 Tryz.underlying9
    · rw [run_convert_bytes_string (P := Tryz.prog) w 37 9 5 _ 0 cap Tryz.underlying37 Tryz.underlying5 Tryz.underlying9]
      exact run_bytesToString (P := Tryz.prog) w ad 0 cap [] (by simpa using run_loadCells_list (P := Tryz.prog) w ad [] (by simp))
  · obtain ⟨b, o, rfl, _, hr⟩ := h.2 h0
    exact conv_str w b o cap len l h.1 hr

theorem strB_list (l : List UInt8) : (strB l).toList = l := by simp [strB]
theorem strB_beq (l m : List UInt8) : ((strB l).toList == (strB m).toList) = decide (l = m) := by
  rw [strB_list, strB_list]
  by_cases h : l = m
  · subst h; simp
  · simp [h]

theorem equal_any (w : World) (a a' : Option Addr) (len len' cap cap' : Nat) (l l' : List UInt8) (h : Src w a len l) (h' : Src w a' len' l') :
    Calls Tryz.prog 52 #[.slice a len cap, .slice a' len' cap'] w fun e w' => e = .returned (.bool (decide (l = l'))) ∧ w = w' := by
  have c1 := conv_src w a len cap l h
  have c2 := conv_src w a' len' cap' l' h'
  clear h h'
  go_enter Tryz.func52, Tryz.ntmps52
  go_wp2
  go_ret
  exact ⟨ret_bool (strB_beq l l'), rfl⟩

theorem ofInt_64 (a : Nat) (ha : a < 18446744073709551616) : (BitVec.ofInt 64 (a : Int)).toNat = a := ofInt_u64 a ha
theorem i64_or_nat (a b : Nat) (ha : a < 9223372036854775808) (hb : b < 9223372036854775808) : bits .or .i64 (a : Int) (b : Int) = ((a ||| b : Nat) : Int) := by
  have hx : a ||| b < 2 ^ 63 := Nat.or_lt_two_pow (by omega) (by omega)
  show IntKind.i64.wrap ((BitVec.ofInt 64 (a : Int) ||| BitVec.ofInt 64 (b : Int)).toNat : Int) = _
  rw [BitVec.toNat_or, ofInt_u64 a (by omega), ofInt_u64 b (by omega), IntKind.wrap_i64]
  omega
theorem numB_drop (l : List UInt8) (k : Nat) (h : k < l.length) : numB (l.drop k) = 256 * numB (l.drop (k + 1)) + l[k].toNat := by
  rw [List.drop_eq_getElem_cons h, numB]; omega

theorem src_one (W : World) (x : Int) (m : Nat) (hx : x = ((UInt8.ofNat m).toNat : Int)) (t : TypeId) : Src (W.alloc (.cells #[.int .u8 x] t)) (some ⟨W.heap.size, 0, none⟩) 1 [UInt8.ofNat m] := by
  refine ⟨rfl, fun _ => ⟨_, _, rfl, by simp, fun j v hv => ?_⟩⟩
  rcases j with _ | j
  · simp only [bv, List.map_cons, List.map_nil, List.getElem?_cons_zero, Option.some.injEq] at hv
    subst hv; subst hx
    have := (IsBlk.made W (.cells #[.int .u8 ((UInt8.ofNat m).toNat : Int)] t)).cell 0
    rw [Nat.zero_add, this]; rfl
  · simp [bv] at hv
theorem OwnB.alloc {w : World} {base : Nat} {v : Value} {l : List UInt8} (h : OwnB w base v l) (o : Obj) : OwnB (w.alloc o) base v l := World.ownsRow.alloc h o

end Go.Proofs.YtfampoblcielpaaGreat
