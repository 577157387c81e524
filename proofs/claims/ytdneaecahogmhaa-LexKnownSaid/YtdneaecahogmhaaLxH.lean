/-
  Bytes as a text; the walk of the law LexTokens: it returns true, whatever its arguments are, and turns nothing that was there.
-/
import Derived.Test.YtdneaecahogmhaaLxG
import Derived.Laws.MakeOwn
import Derived.Laws.OwnMore
import Derived.Laws.BytesArg
namespace Go.Proofs.Ytdneaecahogmhaa
set_option maxRecDepth 100000
set_option linter.unusedVariables false
open Go.RowKit Go.Sort

theorem conv_str (w : World) (g o cap len : Nat) (l : List UInt8) (hl : l.length = len) (hr : w.rangeAt g o (bv l)) : (convert 24 9 (.slice (some ⟨g, o, none⟩) len cap)).run Try.prog w = .ok (.string ⟨l.toArray⟩) w := by
  have := run_convert_bytes_arg (P := Try.prog) w 24 5 Try.underlying24 Try.underlying5 g o len cap (l.map fun b => (b.toNat : Int)) (by simpa using hl) (fun i hi => by
    have hi' : i < l.length := by omega
    rw [hr i (.int .u8 l[i].toNat) (by simp [bv, List.getElem?_eq_getElem hi'])]
    simp [List.getD, List.getElem?_eq_getElem hi']) 9 Try.underlying9
  rw [this]
  congr 2
  simp only [strOfNums, List.map_map]
  have e1 : l.map ((fun n : Int => UInt8.ofNat n.toNat) ∘ fun b : UInt8 => (b.toNat : Int)) = l := by
    have : ((fun n : Int => UInt8.ofNat n.toNat) ∘ fun b : UInt8 => (b.toNat : Int)) = id := by funext b; simp
    rw [this, List.map_id]
  rw [e1]

theorem infoB : (Try.prog.info? 5).map (fun i => (i.zero, i.size, i.bytes)) = some (some (.int .u8 0), 1, 1) := by kernel_rfl

/-- A text of noughts. -/
theorem noughts (w : World) (m : Int) (h0 : 0 ≤ m) (h1 : m ≤ 100000) : ∃ w', (Instr.makeSlice 24 (.int .i64 m) (.int .i64 m)).run Try.prog w = .ok (.slice (some ⟨w.heap.size, 0, none⟩) m.toNat m.toNat) w' ∧
    (convert 24 9 (.slice (some ⟨w.heap.size, 0, none⟩) m.toNat m.toNat)).run Try.prog w' = .ok (.string ⟨(List.replicate m.toNat 0).toArray⟩) w' ∧ Only [] w w' := by
  obtain ⟨i0, hi, hz0, hz1, hz2⟩ := info_parts infoB
  have hm := run_make (P := Try.prog) w 24 5 i0 (.int .u8 0) Try.underlying24 hi hz0 .i64 .i64 m m h0 (Int.le_refl _) (by rw [hz2]; omega) (by omega)
  rw [hz1, Nat.mul_one] at hm
  refine ⟨_, hm, ?_, (Only.refl [] w).alloc _⟩
  refine conv_str _ _ 0 _ _ _ (by simp) (fun j v hv => ?_)
  rw [(IsBlk.made w (.cells (madeCells (Value.int .u8 0).cells m.toNat) 5)).cell]
  have e : (madeCells (Value.int .u8 0).cells m.toNat).toList = List.replicate m.toNat (.int .u8 0) := toList_madeCells_one _ _
  rw [← Array.getElem?_toList, e]
  simp only [bv, List.map_replicate] at hv
  rw [Nat.zero_add]
  exact hv

set_option maxHeartbeats 8000000 in
theorem tokens_walk (a : Option Addr) (len cap : Nat) (ns : List Int) (raw : List UInt8) (pad : Int) (w : World) (h : IntsArg w a len ns) (hraw : raw.length ≤ maxLen) :
    Calls Try.prog 3 #[.slice a len cap, encStr raw, .int .i64 pad] w fun e w' => e = .returned (.bool true) ∧ Only [] w w' := by
  unfold maxLen at hraw
  have H := Lib.hid h
  clear h
  unfold encStr
  go_enter Try.func3, Try.ntmps3
  go_wp2_with fail
  refine (known5_any _).mono ?_
  rintro e w0 ⟨rfl, hO0⟩
  have HO0 := Lib.hid hO0
  clear hO0
  by_cases hlong : 2100 < raw.length
  · have hlongi : (2100 : Int) < (raw.length : Int) := by omega
    go_wp2
    go_ret
    exact ⟨rfl, HO0.out⟩
  have hlongi : ¬ (2100 : Int) < (raw.length : Int) := by omega
  go_wp2_with fail
  refine (within5_to _ pad 10 (by omega) (by omega)).mono ?_
  rintro e w' ⟨rfl, rfl⟩
  rw [show (10 : Int).toNat = 10 from rfl]
  have hpl := inM_lti pad 10 (by omega)
  generalize inM pad 10 = pd at *
  obtain ⟨w1, hmk, hcv, hO1⟩ := noughts w0 (1995 + (pd : Int)) (by omega) (by omega)
  have HO1 := Lib.hid (HO0.out.plus hO1)
  have Hz : Hid ((List.replicate (1995 + (pd : Int)).toNat (0 : UInt8)).length ≤ 100000) := Lib.hid (by rw [List.length_replicate]; omega)
  clear hO1
  generalize List.replicate (1995 + (pd : Int)).toNat (0 : UInt8) = zs at *
  generalize (1995 + (pd : Int)).toNat = zl at *
  go_wp2_with fail
  refine (text_any _ a len cap ns (H.out.1.more HO1.out) H.out.2).mono ?_
  rintro e w2 ⟨rfl, hO2⟩
  have HO2 := Lib.hid (HO1.out.plus hO2)
  have htl : (textM ns (min len 150)).length ≤ 1950 := by have := textM_len ns (min len 150); omega
  clear hO2
  unfold encStr
  generalize htx : textM ns (min len 150) = tx at *
  have Htx := Lib.hid htx
  clear htx
  go_wp2_with fail
  refine (text_any _ a len cap ns (H.out.1.more HO2.out) H.out.2).mono ?_
  rintro e w3 ⟨rfl, hO3⟩
  rw [Htx.out]
  have HO3 := Lib.hid (HO2.out.plus hO3)
  clear hO3
  unfold encStr
  have happ := append_list tx raw
  have hT : Hid (∀ s ∈ [tx, raw, tx ++ raw, zs, []], s.length ≤ 100000) := Lib.hid (fun s hs => by
    have := Hz.out
    simp at hs
    rcases hs with rfl | rfl | rfl | rfl | rfl <;> simp <;> omega)
  have hq := IsBlk.made w3 (.cells ([tx, raw, tx ++ raw, zs, []].map encStr).toArray 9)
  have hOq := (Only.refl [] w3).alloc (.cells ([tx, raw, tx ++ raw, zs, []].map encStr).toArray 9)
  simp only [List.map_cons, List.map_nil, encStr] at hq hOq
  go_wp2_with fail
  have HO4 := Lib.hid (HO3.out.plus hOq)
  have Hq : Hid (IsBlk (w3.alloc (.cells #[.string ⟨tx.toArray⟩, .string ⟨raw.toArray⟩, .string ⟨(tx ++ raw).toArray⟩, .string ⟨zs.toArray⟩, .string ⟨#[]⟩] 9)) w3.heap.size (.cells ([tx, raw, tx ++ raw, zs, []].map encStr).toArray 9)) := Lib.hid hq
  clear hq hOq
  generalize w3.alloc (.cells #[.string ⟨tx.toArray⟩, .string ⟨raw.toArray⟩, .string ⟨(tx ++ raw).toArray⟩, .string ⟨zs.toArray⟩, .string ⟨#[]⟩] 9) = w4 at *
  have hTl : Hid ([tx, raw, tx ++ raw, zs, []].length = 5) := Lib.hid rfl
  generalize [tx, raw, tx ++ raw, zs, []] = T at *
  go_loopw [9] (fun i wr => ∃ k : Nat, k ≤ 5 ∧ i = .int .i64 k ∧ Only [] w4 wr) (fun i _ => 5 - (intOf i).toNat)
  case atStart => exact ⟨0, by omega, rfl, Only.refl _ _⟩
  case round =>
    obtain ⟨k, hk, rfl, hO⟩ := hrel
    have HO := Lib.hid hO
    clear hO
    by_cases hlt : k < 5
    · have hlti : (k : Int) < 5 := by omega
      have hkT : k < T.length := by have := hTl.out; omega
      have hc := table_cell T (Hq.out.only HO.out (by simp)) k hkT
      have hsl := hT.out _ (List.getElem_mem hkT)
      have e0 : T.getD k [] = T[k] := by simp [hkT]
      rw [e0] at hc
      generalize T[k] = s at *
      have hg := IsBlk.lt Hq.out
      go_wp2_with fail
      refine (tokens_any _ s hsl).mono ?_
      rintro e w5 ⟨v5, rfl, hv5, hO5⟩
      obtain ⟨a5, c5, rfl, ht5⟩ := hv5.toks
      have Ht5 := Lib.hid ht5
      have HO5 := Lib.hid (HO.out.plus hO5)
      have hc5 := (hO5.cell (p := ⟨w3.heap.size, k, none⟩) (Nat.lt_of_lt_of_le hg HO.out.size) (by simp)).trans hc
      clear hc hv5 ht5 hO5
      go_wp2_with fail
      refine (rtokens_any _ s hsl).mono ?_
      rintro e w6 ⟨v6, rfl, hv6, hO6⟩
      obtain ⟨a6, c6, rfl, ht6⟩ := hv6.toks
      have Ht6 := Lib.hid ht6
      have Ht56 := Lib.hid (Ht5.out.more hO6)
      have HO6 := Lib.hid (HO5.out.plus hO6)
      have hlen : (tokM s).1.length ≤ 1000000 := by have := tokM_len s; omega
      clear hc5 hv6 ht6 hO6
      generalize tokM s = tm at *
      obtain ⟨l, at_, er⟩ := tm
      simp only at *
      go_wp2_with fail
      refine (same5_any _ a5 a6 c5 c6 l l Ht56.out Ht6.out hlen).mono ?_
      rintro e w7 ⟨rfl, hO7⟩
      rw [decide_eq_true (rfl : l = l)]
      go_wp2
      go_roundw
      case rel => exact ⟨k + 1, by omega, by go_num, HO6.out.plus hO7⟩
      case measure => simp [intOf]; omega
    · have hge : ¬ (k : Int) < 5 := by omega
      go_wp2
      go_ret
      exact ⟨rfl, HO4.out.plus HO.out⟩

end Go.Proofs.Ytdneaecahogmhaa
