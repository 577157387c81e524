/-
  The walk of the law LexKnown: it returns true, whatever its argument is, and turns nothing that was there.
-/
import Derived.Test.YtdneaecahogmhaaLxH
import Derived.Deep.RegionHeld3
import Derived.Deep.CutBlock
import Derived.Deep.CutRange
import Derived.Deep.DeepCutAuto
import Derived.IntWalk
namespace Go.Proofs.Ytdneaecahogmhaa
set_option maxRecDepth 100000
set_option linter.unusedVariables false
open Go.RowKit Go.Sort

def knownS : List (List UInt8) := [[], [32, 9, 10, 32], [97, 123, 98, 125], [120, 57, 32, 57], [117, 115, 101, 32, 117, 115, 101, 120], [123, 32, 123], [65], [97, 45, 98], [97, 13], [97, 98, 0], [97, 95, 98]]
def knownW : List (List UInt8) := [[], [], [97, 64, 48, 32, 123, 64, 49, 32, 98, 64, 50, 32, 125, 64, 51, 32], [57], [117, 115, 101, 64, 48, 32, 117, 115, 101, 120, 64, 52, 32], [123, 64, 48, 32, 123, 64, 50, 32], [48], [49], [49], [50], [49]]
/-- A token as the law writes it. -/
def showT (t : Tok) : List UInt8 := (if t.kind = 1 then t.s else if t.kind = 2 then [123] else [125]) ++ ([64] ++ ([UInt8.ofNat (48 + t.at_)] ++ [32]))
theorem known_all : ∀ k : Fin 11, (knownS.getD k.1 []).length ≤ 100 ∧
    (((tokM (knownS.getD k.1 [])).2.2 = 0 ∧ (tokM (knownS.getD k.1 [])).2.1 = 0 ∧ (tokM (knownS.getD k.1 [])).1.flatMap showT = knownW.getD k.1 [] ∧ (tokM (knownS.getD k.1 [])).1.all (fun t => (t.kind == 1 || t.kind == 2 || t.kind == 3) && decide (t.at_ ≤ 9) && decide (t.s.length ≤ 10)) = true ∧ (tokM (knownS.getD k.1 [])).1.length ≤ 10) ∨
     ((tokM (knownS.getD k.1 [])).2.2 = 6 ∧ (tokM (knownS.getD k.1 [])).1 = [] ∧ (tokM (knownS.getD k.1 [])).2.1 ≤ 9 ∧ (knownW.getD k.1 [] = [UInt8.ofNat (48 + (tokM (knownS.getD k.1 [])).2.1)] ∨ k.1 = 3 ∧ (tokM (knownS.getD k.1 [])).2.1 = 3))) := by decide
theorem known_at (k : Nat) (hk : k < 11) : (knownS.getD k []).length ≤ 100 ∧
    (((tokM (knownS.getD k [])).2.2 = 0 ∧ (tokM (knownS.getD k [])).2.1 = 0 ∧ (tokM (knownS.getD k [])).1.flatMap showT = knownW.getD k [] ∧ (tokM (knownS.getD k [])).1.all (fun t => (t.kind == 1 || t.kind == 2 || t.kind == 3) && decide (t.at_ ≤ 9) && decide (t.s.length ≤ 10)) = true ∧ (tokM (knownS.getD k [])).1.length ≤ 10) ∨
     ((tokM (knownS.getD k [])).2.2 = 6 ∧ (tokM (knownS.getD k [])).1 = [] ∧ (tokM (knownS.getD k [])).2.1 ≤ 9 ∧ (knownW.getD k [] = [UInt8.ofNat (48 + (tokM (knownS.getD k [])).2.1)] ∨ k = 3 ∧ (tokM (knownS.getD k [])).2.1 = 3))) := known_all ⟨k, hk⟩

theorem byte_cell (n : Nat) (h : n ≤ 9) : bv [UInt8.ofNat (48 + n)] = [.int .u8 (48 + (n : Int))] := by
  have h1 : (UInt8.ofNat (48 + n)).toNat = 48 + n := by simp; omega
  simp [bv]
  omega
theorem byte_str (n : Nat) (h : n ≤ 9) {W : World} {g : Nat} (hg : IsBlk W g (.cells #[.int .u8 (48 + (n : Int))] 5)) : (convert 24 9 (.slice (some ⟨g, 0, none⟩) 1 1)).run Try.prog W = .ok (.string ⟨#[UInt8.ofNat (48 + n)]⟩) W := by
  refine conv_str W g 0 1 1 [UInt8.ofNat (48 + n)] rfl (fun j v hv => ?_)
  rw [byte_cell n h] at hv
  match j, hv with
  | 0, hv => simp at hv; subst hv; exact hg.cell 0
  | m + 1, hv => simp at hv

set_option maxHeartbeats 16000000 in
theorem known_walk (which : Int) (w : World) :
    Calls Try.prog 6 #[.int .i64 which] w fun e w' => e = .returned (.bool true) ∧ Only [] w w' := by
  go_enter Try.func6, Try.ntmps6
  go_wp2_with fail
  refine (known5_any _).mono ?_
  rintro e w0 ⟨rfl, hO0⟩
  have HO0 := Lib.hid hO0
  clear hO0
  have hq1 := IsBlk.made w0 (.cells #[.string ⟨#[]⟩, .string ⟨#[32, 9, 10, 32]⟩, .string ⟨#[97, 123, 98, 125]⟩, .string ⟨#[120, 57, 32, 57]⟩, .string ⟨#[117, 115, 101, 32, 117, 115, 101, 120]⟩, .string ⟨#[123, 32, 123]⟩, .string ⟨#[65]⟩, .string ⟨#[97, 45, 98]⟩, .string ⟨#[97, 13]⟩, .string ⟨#[97, 98, 0]⟩, .string ⟨#[97, 95, 98]⟩] 9)
  have hO1 := (Only.refl [] w0).alloc (.cells #[.string ⟨#[]⟩, .string ⟨#[32, 9, 10, 32]⟩, .string ⟨#[97, 123, 98, 125]⟩, .string ⟨#[120, 57, 32, 57]⟩, .string ⟨#[117, 115, 101, 32, 117, 115, 101, 120]⟩, .string ⟨#[123, 32, 123]⟩, .string ⟨#[65]⟩, .string ⟨#[97, 45, 98]⟩, .string ⟨#[97, 13]⟩, .string ⟨#[97, 98, 0]⟩, .string ⟨#[97, 95, 98]⟩] 9)
  have hq2 := IsBlk.made (w0.alloc (.cells #[.string ⟨#[]⟩, .string ⟨#[32, 9, 10, 32]⟩, .string ⟨#[97, 123, 98, 125]⟩, .string ⟨#[120, 57, 32, 57]⟩, .string ⟨#[117, 115, 101, 32, 117, 115, 101, 120]⟩, .string ⟨#[123, 32, 123]⟩, .string ⟨#[65]⟩, .string ⟨#[97, 45, 98]⟩, .string ⟨#[97, 13]⟩, .string ⟨#[97, 98, 0]⟩, .string ⟨#[97, 95, 98]⟩] 9)) (.cells #[.string ⟨#[]⟩, .string ⟨#[]⟩, .string ⟨#[97, 64, 48, 32, 123, 64, 49, 32, 98, 64, 50, 32, 125, 64, 51, 32]⟩, .string ⟨#[57]⟩, .string ⟨#[117, 115, 101, 64, 48, 32, 117, 115, 101, 120, 64, 52, 32]⟩, .string ⟨#[123, 64, 48, 32, 123, 64, 50, 32]⟩, .string ⟨#[48]⟩, .string ⟨#[49]⟩, .string ⟨#[49]⟩, .string ⟨#[50]⟩, .string ⟨#[49]⟩] 9)
  have hO2 := (Only.refl [] (w0.alloc (.cells #[.string ⟨#[]⟩, .string ⟨#[32, 9, 10, 32]⟩, .string ⟨#[97, 123, 98, 125]⟩, .string ⟨#[120, 57, 32, 57]⟩, .string ⟨#[117, 115, 101, 32, 117, 115, 101, 120]⟩, .string ⟨#[123, 32, 123]⟩, .string ⟨#[65]⟩, .string ⟨#[97, 45, 98]⟩, .string ⟨#[97, 13]⟩, .string ⟨#[97, 98, 0]⟩, .string ⟨#[97, 95, 98]⟩] 9))).alloc (.cells #[.string ⟨#[]⟩, .string ⟨#[]⟩, .string ⟨#[97, 64, 48, 32, 123, 64, 49, 32, 98, 64, 50, 32, 125, 64, 51, 32]⟩, .string ⟨#[57]⟩, .string ⟨#[117, 115, 101, 64, 48, 32, 117, 115, 101, 120, 64, 52, 32]⟩, .string ⟨#[123, 64, 48, 32, 123, 64, 50, 32]⟩, .string ⟨#[48]⟩, .string ⟨#[49]⟩, .string ⟨#[49]⟩, .string ⟨#[50]⟩, .string ⟨#[49]⟩] 9)
  have hS1 := hq1.only hO2 (by simp)
  have HO2 := Lib.hid ((HO0.out.plus hO1).plus hO2)
  have HcS : Hid (((w0.alloc (.cells #[.string ⟨#[]⟩, .string ⟨#[32, 9, 10, 32]⟩, .string ⟨#[97, 123, 98, 125]⟩, .string ⟨#[120, 57, 32, 57]⟩, .string ⟨#[117, 115, 101, 32, 117, 115, 101, 120]⟩, .string ⟨#[123, 32, 123]⟩, .string ⟨#[65]⟩, .string ⟨#[97, 45, 98]⟩, .string ⟨#[97, 13]⟩, .string ⟨#[97, 98, 0]⟩, .string ⟨#[97, 95, 98]⟩] 9)).alloc (.cells #[.string ⟨#[]⟩, .string ⟨#[]⟩, .string ⟨#[97, 64, 48, 32, 123, 64, 49, 32, 98, 64, 50, 32, 125, 64, 51, 32]⟩, .string ⟨#[57]⟩, .string ⟨#[117, 115, 101, 64, 48, 32, 117, 115, 101, 120, 64, 52, 32]⟩, .string ⟨#[123, 64, 48, 32, 123, 64, 50, 32]⟩, .string ⟨#[48]⟩, .string ⟨#[49]⟩, .string ⟨#[49]⟩, .string ⟨#[50]⟩, .string ⟨#[49]⟩] 9)).cell? ⟨w0.heap.size, inM which 11, none⟩ = some (.string ⟨(knownS.getD (inM which 11) []).toArray⟩)) := Lib.hid (table_cell knownS hS1 (inM which 11) (inM_lt which 11 (by omega)))
  have HcW : Hid (((w0.alloc (.cells #[.string ⟨#[]⟩, .string ⟨#[32, 9, 10, 32]⟩, .string ⟨#[97, 123, 98, 125]⟩, .string ⟨#[120, 57, 32, 57]⟩, .string ⟨#[117, 115, 101, 32, 117, 115, 101, 120]⟩, .string ⟨#[123, 32, 123]⟩, .string ⟨#[65]⟩, .string ⟨#[97, 45, 98]⟩, .string ⟨#[97, 13]⟩, .string ⟨#[97, 98, 0]⟩, .string ⟨#[97, 95, 98]⟩] 9)).alloc (.cells #[.string ⟨#[]⟩, .string ⟨#[]⟩, .string ⟨#[97, 64, 48, 32, 123, 64, 49, 32, 98, 64, 50, 32, 125, 64, 51, 32]⟩, .string ⟨#[57]⟩, .string ⟨#[117, 115, 101, 64, 48, 32, 117, 115, 101, 120, 64, 52, 32]⟩, .string ⟨#[123, 64, 48, 32, 123, 64, 50, 32]⟩, .string ⟨#[48]⟩, .string ⟨#[49]⟩, .string ⟨#[49]⟩, .string ⟨#[50]⟩, .string ⟨#[49]⟩] 9)).cell? ⟨w0.heap.size + 1, inM which 11, none⟩ = some (.string ⟨(knownW.getD (inM which 11) []).toArray⟩)) := Lib.hid (by
    have := table_cell knownW hq2 (inM which 11) (inM_lt which 11 (by omega))
    simpa using this)
  have hws : w0.heap.size + 1 < ((w0.alloc (.cells #[.string ⟨#[]⟩, .string ⟨#[32, 9, 10, 32]⟩, .string ⟨#[97, 123, 98, 125]⟩, .string ⟨#[120, 57, 32, 57]⟩, .string ⟨#[117, 115, 101, 32, 117, 115, 101, 120]⟩, .string ⟨#[123, 32, 123]⟩, .string ⟨#[65]⟩, .string ⟨#[97, 45, 98]⟩, .string ⟨#[97, 13]⟩, .string ⟨#[97, 98, 0]⟩, .string ⟨#[97, 95, 98]⟩] 9)).alloc (.cells #[.string ⟨#[]⟩, .string ⟨#[]⟩, .string ⟨#[97, 64, 48, 32, 123, 64, 49, 32, 98, 64, 50, 32, 125, 64, 51, 32]⟩, .string ⟨#[57]⟩, .string ⟨#[117, 115, 101, 64, 48, 32, 117, 115, 101, 120, 64, 52, 32]⟩, .string ⟨#[123, 64, 48, 32, 123, 64, 50, 32]⟩, .string ⟨#[48]⟩, .string ⟨#[49]⟩, .string ⟨#[49]⟩, .string ⟨#[50]⟩, .string ⟨#[49]⟩] 9)).heap.size := by simp
  have hiz := inM_lti which 11 (by omega)
  have hin := inM_lt which 11 (by omega)
  obtain ⟨hsl, hcase⟩ := known_at (inM which 11) hin
  have Hcase := Lib.hid hcase
  clear hq1 hq2 hO1 hO2 hS1 hcase
  go_wp2_with fail
  refine (within5_to _ which 11 (by omega) (by omega)).mono ?_
  rintro e w' ⟨rfl, rfl⟩
  rw [show (11 : Int).toNat = 11 from rfl]
  generalize (w0.alloc (.cells #[.string ⟨#[]⟩, .string ⟨#[32, 9, 10, 32]⟩, .string ⟨#[97, 123, 98, 125]⟩, .string ⟨#[120, 57, 32, 57]⟩, .string ⟨#[117, 115, 101, 32, 117, 115, 101, 120]⟩, .string ⟨#[123, 32, 123]⟩, .string ⟨#[65]⟩, .string ⟨#[97, 45, 98]⟩, .string ⟨#[97, 13]⟩, .string ⟨#[97, 98, 0]⟩, .string ⟨#[97, 95, 98]⟩] 9)).alloc (.cells #[.string ⟨#[]⟩, .string ⟨#[]⟩, .string ⟨#[97, 64, 48, 32, 123, 64, 49, 32, 98, 64, 50, 32, 125, 64, 51, 32]⟩, .string ⟨#[57]⟩, .string ⟨#[117, 115, 101, 64, 48, 32, 117, 115, 101, 120, 64, 52, 32]⟩, .string ⟨#[123, 64, 48, 32, 123, 64, 50, 32]⟩, .string ⟨#[48]⟩, .string ⟨#[49]⟩, .string ⟨#[49]⟩, .string ⟨#[50]⟩, .string ⟨#[49]⟩] 9) = w2 at *
  have hcS := HcS.out
  generalize hk : inM which 11 = k at *
  clear hk
  generalize knownS.getD k [] = s at *
  generalize knownW.getD k [] = x at *
  go_wp2_with fail
  refine (tokens_any _ s (by omega)).mono ?_
  rintro e w3 ⟨v3, rfl, hv3, hO3⟩
  have hcW := (hO3.cell (p := ⟨w0.heap.size + 1, k, none⟩) hws (by simp)).trans HcW.out
  have hg1 : w0.heap.size + 1 < w3.heap.size := Nat.lt_of_lt_of_le hws hO3.size
  generalize tokM s = tm at *
  obtain ⟨l, at_, er⟩ := tm
  simp only at hv3 Hcase
  obtain ⟨a3, c3, rfl, ht3⟩ := hv3.toks
  have Ht3 := Lib.hid ht3
  have HO3 := Lib.hid (HO2.out.plus hO3)
  clear hv3 ht3 hO3 hcS HcS HcW
  rcases Hcase.out with ⟨rfl, rfl, h3, h4, h5⟩ | ⟨rfl, rfl, h2, h3⟩
  · clear Hcase
    have H3 := Lib.hid h3
    have H4 := Lib.hid (List.all_eq_true.1 h4)
    clear h3 h4
    go_wp2_with fail
    go_loopw [9, 10] (fun t i wr => ∃ j : Nat, j ≤ l.length ∧ i = .int .i64 j ∧ t = .string ⟨((l.take j).flatMap showT).toArray⟩ ∧ ((l.take j).flatMap showT).length ≤ 13 * j ∧ Only [] w3 wr) (fun _ i _ => l.length - (intOf i).toNat)
    case atStart => exact ⟨0, by omega, rfl, rfl, by simp, Only.refl _ _⟩
    case round =>
      obtain ⟨j, hj, rfl, rfl, htl, hO⟩ := hrel
      have HO := Lib.hid hO
      clear hO
      by_cases hlt : j < l.length
      · have hlti : (j : Int) < (l.length : Int) := by omega
        obtain ⟨g, rfl, hba, hca⟩ := (Ht3.out.more HO.out) (by omega)
        obtain ⟨c0, c1, c2⟩ := hca j _ (List.getElem?_eq_getElem hlt)
        have hok := H4.out l[j] (List.getElem_mem hlt)
        have Hsn : Hid ((l.take (j + 1)).flatMap showT = (l.take j).flatMap showT ++ showT l[j]) := Lib.hid (by rw [List.take_add_one, List.getElem?_eq_getElem hlt]; simp only [Option.toList_some, List.flatMap_append, List.flatMap_cons, List.flatMap_nil, List.append_nil])
        clear hca
        generalize l[j] = f at *
        generalize (l.take j).flatMap showT = tx at *
        obtain ⟨fk, fa, fs⟩ := f
        unfold encStr at c2
        simp only at c0 c1 c2 hok
        have hfa : fa ≤ 9 := by simp at hok; omega
        have hfl : fs.length ≤ 10 := by simp at hok; omega
        have hk123 : fk = 1 ∨ fk = 2 ∨ fk = 3 := by simp at hok; omega
        have hconv : ∀ W : World, (convert 24 9 (.slice (some ⟨W.heap.size, 0, none⟩) 1 1)).run Try.prog (W.alloc (.cells #[.int .u8 (48 + (fa : Int))] 5)) = .ok (.string ⟨#[UInt8.ofNat (48 + fa)]⟩) (W.alloc (.cells #[.int .u8 (48 + (fa : Int))] 5)) := fun W => byte_str fa hfa (IsBlk.made W _)
        have e2 : IntKind.i64.wrap (48 + (fa : Int)) = 48 + (fa : Int) := IntWalk.i64_in _ (by omega)
        have e3 : IntKind.u8.wrap (48 + (fa : Int)) = 48 + (fa : Int) := IntWalk.u8_in _ (by omega)
        clear hok
        obtain ⟨bb, hbb⟩ : ∃ bb, bb = UInt8.ofNat (48 + fa) := ⟨_, rfl⟩
        rw [← hbb] at hconv
        have Hbb := Lib.hid hbb
        clear hbb
        rcases hk123 with rfl | rfl | rfl
        · obtain ⟨y1, hy1⟩ : ∃ y, y = tx ++ fs := ⟨_, rfl⟩
          obtain ⟨y2, hy2⟩ : ∃ y, y = y1 ++ [64] := ⟨_, rfl⟩
          obtain ⟨y3, hy3⟩ : ∃ y, y = y2 ++ [bb] := ⟨_, rfl⟩
          obtain ⟨y4, hy4⟩ : ∃ y, y = y3 ++ [32] := ⟨_, rfl⟩
          have hp1 : (⟨tx.toArray⟩ : ByteArray) ++ ⟨fs.toArray⟩ = ⟨y1.toArray⟩ := by rw [hy1]; exact append_list tx fs
          have hp2 : (⟨y1.toArray⟩ : ByteArray) ++ ⟨#[64]⟩ = ⟨y2.toArray⟩ := by rw [hy2]; exact append_list y1 [64]
          have hp3 : (⟨y2.toArray⟩ : ByteArray) ++ ⟨#[bb]⟩ = ⟨y3.toArray⟩ := by rw [hy3]; exact append_list y2 [bb]
          have hp4 : (⟨y3.toArray⟩ : ByteArray) ++ ⟨#[32]⟩ = ⟨y4.toArray⟩ := by rw [hy4]; exact append_list y3 [32]
          have hl1 : y1.length ≤ tx.length + 10 := by rw [hy1, List.length_append]; simp; try omega
          have hl2 : y2.length = y1.length + 1 := by rw [hy2]; simp
          have hl3 : y3.length = y2.length + 1 := by rw [hy3]; simp
          have hl4 : y4.length = y3.length + 1 := by rw [hy4]; simp
          have Hy : Hid (y4 = tx ++ showT ⟨1, fa, fs⟩) := Lib.hid (by
            rw [hy4, hy3, hy2, hy1, Hbb.out, List.append_assoc, List.append_assoc, List.append_assoc]
            rfl)
          clear hy1 hy2 hy3 hy4
          go_wp2
          go_roundw
          case rel => exact ⟨j + 1, by omega, by go_num, by rw [Hsn.out, Hy.out], by rw [Hsn.out, ← Hy.out]; omega, HO.out.plus ((Only.refl [] wr).alloc _)⟩
          case measure => simp [intOf]; omega
        · have hcut : ∀ W : World, (Instr.slice 9 (.string ⟨#[123, 125]⟩) (some (.int .i64 0)) (some (.int .i64 1)) none).run Try.prog W = .ok (.string ⟨#[123]⟩) W := fun W => by
            rw [run_slice_string (P := Try.prog) W 9 ⟨#[123, 125]⟩ .i64 .i64 0 1 Try.underlying9 (by omega) (by omega) (by decide)]
            rfl
          obtain ⟨y1, hy1⟩ : ∃ y, y = tx ++ [123] := ⟨_, rfl⟩
          obtain ⟨y2, hy2⟩ : ∃ y, y = y1 ++ [64] := ⟨_, rfl⟩
          obtain ⟨y3, hy3⟩ : ∃ y, y = y2 ++ [bb] := ⟨_, rfl⟩
          obtain ⟨y4, hy4⟩ : ∃ y, y = y3 ++ [32] := ⟨_, rfl⟩
          have hp1 : (⟨tx.toArray⟩ : ByteArray) ++ ⟨#[123]⟩ = ⟨y1.toArray⟩ := by rw [hy1]; exact append_list tx [123]
          have hp2 : (⟨y1.toArray⟩ : ByteArray) ++ ⟨#[64]⟩ = ⟨y2.toArray⟩ := by rw [hy2]; exact append_list y1 [64]
          have hp3 : (⟨y2.toArray⟩ : ByteArray) ++ ⟨#[bb]⟩ = ⟨y3.toArray⟩ := by rw [hy3]; exact append_list y2 [bb]
          have hp4 : (⟨y3.toArray⟩ : ByteArray) ++ ⟨#[32]⟩ = ⟨y4.toArray⟩ := by rw [hy4]; exact append_list y3 [32]
          have hl1 : y1.length ≤ tx.length + 10 := by rw [hy1, List.length_append]; simp; try omega
          have hl2 : y2.length = y1.length + 1 := by rw [hy2]; simp
          have hl3 : y3.length = y2.length + 1 := by rw [hy3]; simp
          have hl4 : y4.length = y3.length + 1 := by rw [hy4]; simp
          have Hy : Hid (y4 = tx ++ showT ⟨2, fa, fs⟩) := Lib.hid (by
            rw [hy4, hy3, hy2, hy1, Hbb.out, List.append_assoc, List.append_assoc, List.append_assoc]
            rfl)
          clear hy1 hy2 hy3 hy4
          have hconvD : ∀ n : Nat, (convert 24 9 (.slice (some ⟨wr.heap.size, 0, none⟩) 1 1)).run Try.prog ((wr.drewN n).alloc (.cells #[.int .u8 (48 + (fa : Int))] 5)) = .ok (.string ⟨#[bb]⟩) ((wr.drewN n).alloc (.cells #[.int .u8 (48 + (fa : Int))] 5)) := fun n => hconv (wr.drewN n)
          go_wp2_with fail
          go_quiet (fail)
          go_wp2
          go_roundw
          case rel => exact ⟨j + 1, by omega, by go_num, by rw [Hsn.out, Hy.out], by rw [Hsn.out, ← Hy.out]; omega, (HO.out.plus ((Only.refl [] wr).drewN _)).plus ((Only.refl [] _).alloc _)⟩
          case measure => simp [intOf]; omega
        · have hcut : ∀ W : World, (Instr.slice 9 (.string ⟨#[123, 125]⟩) (some (.int .i64 1)) (some (.int .i64 2)) none).run Try.prog W = .ok (.string ⟨#[125]⟩) W := fun W => by
            rw [run_slice_string (P := Try.prog) W 9 ⟨#[123, 125]⟩ .i64 .i64 1 2 Try.underlying9 (by omega) (by omega) (by decide)]
            rfl
          obtain ⟨y1, hy1⟩ : ∃ y, y = tx ++ [125] := ⟨_, rfl⟩
          obtain ⟨y2, hy2⟩ : ∃ y, y = y1 ++ [64] := ⟨_, rfl⟩
          obtain ⟨y3, hy3⟩ : ∃ y, y = y2 ++ [bb] := ⟨_, rfl⟩
          obtain ⟨y4, hy4⟩ : ∃ y, y = y3 ++ [32] := ⟨_, rfl⟩
          have hp1 : (⟨tx.toArray⟩ : ByteArray) ++ ⟨#[125]⟩ = ⟨y1.toArray⟩ := by rw [hy1]; exact append_list tx [125]
          have hp2 : (⟨y1.toArray⟩ : ByteArray) ++ ⟨#[64]⟩ = ⟨y2.toArray⟩ := by rw [hy2]; exact append_list y1 [64]
          have hp3 : (⟨y2.toArray⟩ : ByteArray) ++ ⟨#[bb]⟩ = ⟨y3.toArray⟩ := by rw [hy3]; exact append_list y2 [bb]
          have hp4 : (⟨y3.toArray⟩ : ByteArray) ++ ⟨#[32]⟩ = ⟨y4.toArray⟩ := by rw [hy4]; exact append_list y3 [32]
          have hl1 : y1.length ≤ tx.length + 10 := by rw [hy1, List.length_append]; simp; try omega
          have hl2 : y2.length = y1.length + 1 := by rw [hy2]; simp
          have hl3 : y3.length = y2.length + 1 := by rw [hy3]; simp
          have hl4 : y4.length = y3.length + 1 := by rw [hy4]; simp
          have Hy : Hid (y4 = tx ++ showT ⟨3, fa, fs⟩) := Lib.hid (by
            rw [hy4, hy3, hy2, hy1, Hbb.out, List.append_assoc, List.append_assoc, List.append_assoc]
            rfl)
          clear hy1 hy2 hy3 hy4
          have hconvD : ∀ n : Nat, (convert 24 9 (.slice (some ⟨wr.heap.size, 0, none⟩) 1 1)).run Try.prog ((wr.drewN n).alloc (.cells #[.int .u8 (48 + (fa : Int))] 5)) = .ok (.string ⟨#[bb]⟩) ((wr.drewN n).alloc (.cells #[.int .u8 (48 + (fa : Int))] 5)) := fun n => hconv (wr.drewN n)
          go_wp2_with fail
          go_quiet (fail)
          go_wp2
          go_roundw
          case rel => exact ⟨j + 1, by omega, by go_num, by rw [Hsn.out, Hy.out], by rw [Hsn.out, ← Hy.out]; omega, (HO.out.plus ((Only.refl [] wr).drewN _)).plus ((Only.refl [] _).alloc _)⟩
          case measure => simp [intOf]; omega
      · have hge : ¬ (j : Int) < (l.length : Int) := by omega
        have hcW2 := (HO.out.cell (p := ⟨w0.heap.size + 1, k, none⟩) hg1 (by simp)).trans hcW
        have hx : (l.take j).flatMap showT = x := by rw [List.take_of_length_le (by omega)]; exact H3.out
        rw [hx]
        clear hcW
        go_wp2
        go_ret
        exact ⟨by simp, HO3.out.plus HO.out⟩
  · clear Hcase
    have hcv0 : ∀ (W : World) (g : Nat), IsBlk W g (.cells #[.int .u8 (48 + (at_ : Int))] 5) → (convert 24 9 (.slice (some ⟨g, 0, none⟩) 1 1)).run Try.prog W = .ok (.string ⟨#[UInt8.ofNat (48 + at_)]⟩) W := fun W g h => byte_str at_ h2 h
    have e2 : IntKind.i64.wrap (48 + (at_ : Int)) = 48 + (at_ : Int) := IntWalk.i64_in _ (by omega)
    have e3 : IntKind.u8.wrap (48 + (at_ : Int)) = 48 + (at_ : Int) := IntWalk.u8_in _ (by omega)
    go_upto_region 8 with fail
    by_cases hx : x = [UInt8.ofNat (48 + at_)]
    · obtain ⟨bb, hbb⟩ : ∃ bb, bb = UInt8.ofNat (48 + at_) := ⟨_, rfl⟩
      rw [← hbb] at hx hcv0
      have Hconv := Lib.hid hcv0
      have Hx : Hid ((x == [bb]) = true) := Lib.hid (by simp [hx])
      clear hbb hx h3 hcv0
      refine wp_region_stabL (P := Try.prog) 27 (by kernel_rfl) (by kernel_rfl) (Only []) (Only.refl _ _) (fun _ _ _ h k => h.then k [] (by simp) (by simp))
        [SP.is (.int .i64 6),
         SP.is (.bool true),
         SP.is (.bool true),
         SP.is (.slice a3 0 c3),
         SP.is (.int .i64 0),
         SP.is (.bool true),
         SP.is (.bool true),
         SP.is (.bool true),
         SP.is (.slice (some ⟨w0.heap.size + 1, 0, none⟩) 11 11),
         SP.is (.int .i64 k),
         SP.is (.pointer (some ⟨w0.heap.size + 1, k, none⟩)),
         SP.is (.string ⟨x.toArray⟩),
         SP.is (.int .i64 at_),
         SP.is (.int .i64 (48 + (at_ : Int))),
         SP.is (.int .u8 (48 + (at_ : Int))),
         ⟨fun v W => ∃ g, v = .slice (some ⟨g, 0, none⟩) 1 1 ∧ IsBlk W g (.cells #[.int .u8 (48 + (at_ : Int))] 5), fun _ _ _ ⟨g, e, h⟩ hO => ⟨g, e, h.only hO (by simp)⟩⟩,
         SP.is (.string ⟨#[bb]⟩),
         SP.is (.bool true),
         SP.is (.bool true),
         SP.is (undef),
         SP.is (undef),
         SP.is (undef),
         SP.is (undef),
         SP.is (undef),
         SP.is (undef),
         SP.is (.bool true),
         SP.is (.bool true)] ?_ ?_
      · simp only [List.take_succ_cons, List.take_zero]
        refine StepsOK.cons ?_ (StepsOK.cons ?_ (StepsOK.cons ?_ (StepsOK.cons ?_ (StepsOK.cons ?_ (StepsOK.cons ?_ (StepsOK.cons ?_ (StepsOK.cons ?_ (StepsOK.cons ?_ (StepsOK.cons ?_ (StepsOK.cons ?_ (StepsOK.cons ?_ (StepsOK.cons ?_ (StepsOK.cons ?_ (StepsOK.cons ?_ (StepsOK.cons ?_ (StepsOK.cons ?_ (StepsOK.cons ?_ (StepsOK.cons ?_ (StepsOK.cons ?_ (StepsOK.cons ?_ (StepsOK.cons ?_ (StepsOK.cons ?_ (StepsOK.cons ?_ (StepsOK.cons ?_ (StepsOK.cons ?_ (StepsOK.cons ?_ StepsOK.nil))))))))))))))))))))))))))
        · intro a W L N hR hold hφ hcl hkp hd K hK
          have e8 := hold 8 (by kernel_rfl)
          clear hold hφ hcl hkp hd
          rw [if_pos (by rfl)]
          go_simp
          exact hK _ _ (Only.refl _ _) rfl
        · intro a W L N hR hold hφ hcl hkp hd K hK
          have e31 := got hφ (hd 0 (by kernel_rfl)) rfl rfl rfl
          clear hold hφ hcl hkp hd
          rw [if_pos (by rfl)]
          go_simp
          exact hK _ _ (Only.refl _ _) rfl
        · intro a W L N hR hold hφ hcl hkp hd K hK
          have e32 := got hφ (hd 1 (by kernel_rfl)) rfl rfl rfl
          clear hold hφ hcl hkp hd
          rw [if_pos (by rfl)]
          go_simp
          exact hK _ _ (Only.refl _ _) rfl
        · intro a W L N hR hold hφ hcl hkp hd K hK
          have e6 := hold 6 (by kernel_rfl)
          have e33 := got hφ (hd 2 (by kernel_rfl)) rfl rfl rfl
          clear hold hφ hcl hkp hd
          rw [if_pos (by simp [Region.wanted, yielded, e33])]
          go_simp
          exact hK _ _ (Only.refl _ _) rfl
        · intro a W L N hR hold hφ hcl hkp hd K hK
          have e34 := got hφ (hd 3 (by kernel_rfl)) rfl rfl rfl
          have e33 := got hφ (hd 2 (by kernel_rfl)) rfl rfl rfl
          clear hold hφ hcl hkp hd
          rw [if_pos (by simp [Region.wanted, yielded, e33])]
          go_simp
          exact hK _ _ (Only.refl _ _) rfl
        · intro a W L N hR hold hφ hcl hkp hd K hK
          have e35 := got hφ (hd 4 (by kernel_rfl)) rfl rfl rfl
          have e33 := got hφ (hd 2 (by kernel_rfl)) rfl rfl rfl
          clear hold hφ hcl hkp hd
          rw [if_pos (by simp [Region.wanted, yielded, e33])]
          go_simp
          exact hK _ _ (Only.refl _ _) rfl
        · intro a W L N hR hold hφ hcl hkp hd K hK
          have e33 := got hφ (hd 2 (by kernel_rfl)) rfl rfl rfl
          have e36 := got hφ (hd 5 (by kernel_rfl)) rfl rfl rfl
          clear hold hφ hcl hkp hd
          rw [if_pos (by rfl)]
          go_simp
          exact hK _ _ (Only.refl _ _) rfl
        · intro a W L N hR hold hφ hcl hkp hd K hK
          have e37 := got hφ (hd 6 (by kernel_rfl)) rfl rfl rfl
          clear hold hφ hcl hkp hd
          rw [if_pos (by rfl)]
          go_simp
          exact hK _ _ (Only.refl _ _) rfl
        · intro a W L N hR hold hφ hcl hkp hd K hK
          have e4 := hold 4 (by kernel_rfl)
          have e38 := got hφ (hd 7 (by kernel_rfl)) rfl rfl rfl
          clear hold hφ hcl hkp hd
          rw [if_pos (by simp [Region.wanted, yielded, e38])]
          go_simp
          exact hK _ _ (Only.refl _ _) rfl
        · intro a W L N hR hold hφ hcl hkp hd K hK
          have e5 := hold 5 (by kernel_rfl)
          have e38 := got hφ (hd 7 (by kernel_rfl)) rfl rfl rfl
          clear hold hφ hcl hkp hd
          rw [if_pos (by simp [Region.wanted, yielded, e38])]
          go_simp
          exact hK _ _ (Only.refl _ _) rfl
        · intro a W L N hR hold hφ hcl hkp hd K hK
          have e39 := got hφ (hd 8 (by kernel_rfl)) rfl rfl rfl
          have e40 := got hφ (hd 9 (by kernel_rfl)) rfl rfl rfl
          have e38 := got hφ (hd 7 (by kernel_rfl)) rfl rfl rfl
          clear hold hφ hcl hkp hd
          rw [if_pos (by simp [Region.wanted, yielded, e38])]
          have hki : (k : Int) < 11 := by omega
          go_simp
          exact hK _ _ (Only.refl _ _) rfl
        · intro a W L N hR hold hφ hcl hkp hd K hK
          have e41 := got hφ (hd 10 (by kernel_rfl)) rfl rfl rfl
          have e38 := got hφ (hd 7 (by kernel_rfl)) rfl rfl rfl
          have hld : W.cell? ⟨w0.heap.size + 1, k, none⟩ = some (.string ⟨x.toArray⟩) := ((((Only.refl [] w3).drew).plus hR).cell (p := ⟨w0.heap.size + 1, k, none⟩) hg1 (by simp)).trans hcW
          clear hold hφ hcl hkp hd
          rw [if_pos (by simp [Region.wanted, yielded, e38])]
          go_simp
          exact hK _ _ (Only.refl _ _) rfl
        · intro a W L N hR hold hφ hcl hkp hd K hK
          have e7 := hold 7 (by kernel_rfl)
          have e38 := got hφ (hd 7 (by kernel_rfl)) rfl rfl rfl
          clear hold hφ hcl hkp hd
          rw [if_pos (by simp [Region.wanted, yielded, e38])]
          go_simp
          exact hK _ _ (Only.refl _ _) rfl
        · intro a W L N hR hold hφ hcl hkp hd K hK
          have e43 := got hφ (hd 12 (by kernel_rfl)) rfl rfl rfl
          have e38 := got hφ (hd 7 (by kernel_rfl)) rfl rfl rfl
          clear hold hφ hcl hkp hd
          rw [if_pos (by simp [Region.wanted, yielded, e38])]
          go_simp
          exact hK _ _ (Only.refl _ _) rfl
        · intro a W L N hR hold hφ hcl hkp hd K hK
          have e44 := got hφ (hd 13 (by kernel_rfl)) rfl rfl rfl
          have e38 := got hφ (hd 7 (by kernel_rfl)) rfl rfl rfl
          clear hold hφ hcl hkp hd
          rw [if_pos (by simp [Region.wanted, yielded, e38])]
          go_simp
          exact hK _ _ (Only.refl _ _) rfl
        · intro a W L N hR hold hφ hcl hkp hd K hK
          have e45 := got hφ (hd 14 (by kernel_rfl)) rfl rfl rfl
          have e38 := got hφ (hd 7 (by kernel_rfl)) rfl rfl rfl
          clear hold hφ hcl hkp hd
          rw [if_pos (by simp [Region.wanted, yielded, e38])]
          go_simp
          exact hK _ _ ((Only.refl _ _).alloc _) ⟨_, rfl, IsBlk.made W _⟩
        · intro a W L N hR hold hφ hcl hkp hd K hK
          have e38 := got hφ (hd 7 (by kernel_rfl)) rfl rfl rfl
          obtain ⟨u46, e46, g46, p46, s46⟩ := gotP hφ (hd 15 (by kernel_rfl)) rfl rfl rfl
          have p46 : u46 = .slice (some ⟨g46, 0, none⟩) 1 1 := p46
          subst p46
          clear hold hφ hcl hkp hd
          rw [if_pos (by simp [Region.wanted, yielded, e38])]
          have hcv : (convert 24 9 (.slice (some ⟨g46, 0, none⟩) 1 1)).run Try.prog W = .ok (.string ⟨#[bb]⟩) W := Hconv.out W g46 s46
          go_simp
          exact hK _ _ (Only.refl _ _) rfl
        · intro a W L N hR hold hφ hcl hkp hd K hK
          have e42 := got hφ (hd 11 (by kernel_rfl)) rfl rfl rfl
          have e47 := got hφ (hd 16 (by kernel_rfl)) rfl rfl rfl
          have e38 := got hφ (hd 7 (by kernel_rfl)) rfl rfl rfl
          clear hold hφ hcl hkp hd
          rw [if_pos (by simp [Region.wanted, yielded, e38])]
          have hxe := Hx.out
          go_simp
          exact hK _ _ (Only.refl _ _) rfl
        · intro a W L N hR hold hφ hcl hkp hd K hK
          have e48 := got hφ (hd 17 (by kernel_rfl)) rfl rfl rfl
          have e38 := got hφ (hd 7 (by kernel_rfl)) rfl rfl rfl
          clear hold hφ hcl hkp hd
          rw [if_pos (by simp [Region.wanted, yielded, e38])]
          go_simp
          exact hK _ _ (Only.refl _ _) rfl
        · intro a W L N hR hold hφ hcl hkp hd K hK
          have e5 := hold 5 (by kernel_rfl)
          have e49 := got hφ (hd 18 (by kernel_rfl)) rfl rfl rfl
          clear hold hφ hcl hkp hd
          rw [if_neg (by simp [Region.wanted, yielded, e49])]
          exact hK _ _ (Only.refl _ _) rfl
        · intro a W L N hR hold hφ hcl hkp hd K hK
          have e50 := got hφ (hd 19 (by kernel_rfl)) rfl rfl rfl
          have e49 := got hφ (hd 18 (by kernel_rfl)) rfl rfl rfl
          clear hold hφ hcl hkp hd
          rw [if_neg (by simp [Region.wanted, yielded, e49])]
          exact hK _ _ (Only.refl _ _) rfl
        · intro a W L N hR hold hφ hcl hkp hd K hK
          have e51 := got hφ (hd 20 (by kernel_rfl)) rfl rfl rfl
          have e49 := got hφ (hd 18 (by kernel_rfl)) rfl rfl rfl
          clear hold hφ hcl hkp hd
          rw [if_neg (by simp [Region.wanted, yielded, e49])]
          exact hK _ _ (Only.refl _ _) rfl
        · intro a W L N hR hold hφ hcl hkp hd K hK
          have e7 := hold 7 (by kernel_rfl)
          have e52 := got hφ (hd 21 (by kernel_rfl)) rfl rfl rfl
          clear hold hφ hcl hkp hd
          rw [if_neg (by simp [Region.wanted, yielded, e52, undef])]
          exact hK _ _ (Only.refl _ _) rfl
        · intro a W L N hR hold hφ hcl hkp hd K hK
          have e53 := got hφ (hd 22 (by kernel_rfl)) rfl rfl rfl
          have e52 := got hφ (hd 21 (by kernel_rfl)) rfl rfl rfl
          clear hold hφ hcl hkp hd
          rw [if_neg (by simp [Region.wanted, yielded, e52, undef])]
          exact hK _ _ (Only.refl _ _) rfl
        · intro a W L N hR hold hφ hcl hkp hd K hK
          have e52 := got hφ (hd 21 (by kernel_rfl)) rfl rfl rfl
          have e54 := got hφ (hd 23 (by kernel_rfl)) rfl rfl rfl
          have e49 := got hφ (hd 18 (by kernel_rfl)) rfl rfl rfl
          clear hold hφ hcl hkp hd
          rw [if_neg (by simp [Region.wanted, yielded, e49])]
          exact hK _ _ (Only.refl _ _) rfl
        · intro a W L N hR hold hφ hcl hkp hd K hK
          have e49 := got hφ (hd 18 (by kernel_rfl)) rfl rfl rfl
          have e55 := got hφ (hd 24 (by kernel_rfl)) rfl rfl rfl
          have e38 := got hφ (hd 7 (by kernel_rfl)) rfl rfl rfl
          clear hold hφ hcl hkp hd
          rw [if_pos (by simp [Region.wanted, yielded, e38])]
          go_simp
          exact hK _ _ (Only.refl _ _) rfl
        · intro a W L N hR hold hφ hcl hkp hd K hK
          have e38 := got hφ (hd 7 (by kernel_rfl)) rfl rfl rfl
          have e56 := got hφ (hd 25 (by kernel_rfl)) rfl rfl rfl
          clear hold hφ hcl hkp hd
          rw [if_pos (by rfl)]
          go_simp
          exact hK _ _ (Only.refl _ _) rfl
      · intro us W hO' hus
        have p26 : us 26 = .bool true := hus 26 _ 57 (by omega) rfl rfl
        clear hus
        simp only [List.take_succ_cons, List.take_zero, List.drop_succ_cons, List.drop_zero, fillAct, Act.put, List.setIfInBounds_toArray, List.set_cons_zero, List.set_cons_succ, Nat.reduceAdd, p26]
        clear p26
        have HO4 := Lib.hid (HO3.out.plus (((Only.refl [] w3).drew).plus hO'))
        clear hO'
        go_wp2
        go_ret
        exact ⟨rfl, HO4.out⟩
    · rcases h3 with h3 | ⟨h3, h4⟩
      · exact absurd h3 hx
      · subst h3
        subst h4
        obtain ⟨bb, hbb⟩ : ∃ bb, bb = UInt8.ofNat (48 + 3) := ⟨_, rfl⟩
        rw [← hbb] at hx hcv0
        have Hconv : Hid (∀ (W : World) (g : Nat), IsBlk W g (.cells #[.int .u8 51] 5) → (convert 24 9 (.slice (some ⟨g, 0, none⟩) 1 1)).run Try.prog W = .ok (.string ⟨#[bb]⟩) W) := Lib.hid hcv0
        have Hx : Hid ((x == [bb]) = false) := Lib.hid (by simpa using hx)
        clear hbb hx hcv0 e2 e3
        refine wp_region_stabL (P := Try.prog) 27 (by kernel_rfl) (by kernel_rfl) (Only []) (Only.refl _ _) (fun _ _ _ h k => h.then k [] (by simp) (by simp))
          [SP.is (.int .i64 6),
           SP.is (.bool true),
           SP.is (.bool true),
           SP.is (.slice a3 0 c3),
           SP.is (.int .i64 0),
           SP.is (.bool true),
           SP.is (.bool true),
           SP.is (.bool true),
           SP.is (.slice (some ⟨w0.heap.size + 1, 0, none⟩) 11 11),
           SP.is (.int .i64 3),
           SP.is (.pointer (some ⟨w0.heap.size + 1, 3, none⟩)),
           SP.is (.string ⟨x.toArray⟩),
           SP.is (.int .i64 3),
           SP.is (.int .i64 51),
           SP.is (.int .u8 51),
           ⟨fun v W => ∃ g, v = .slice (some ⟨g, 0, none⟩) 1 1 ∧ IsBlk W g (.cells #[.int .u8 51] 5), fun _ _ _ ⟨g, e, h⟩ hO => ⟨g, e, h.only hO (by simp)⟩⟩,
           SP.is (.string ⟨#[bb]⟩),
           SP.is (.bool false),
           SP.is (.bool false),
           SP.is (.int .i64 3),
           SP.is (.bool true),
           SP.is (.bool true),
           SP.is (.int .i64 3),
           SP.is (.bool true),
           SP.is (.bool true),
           SP.is (.bool true),
           SP.is (.bool true)] ?_ ?_
        · simp only [List.take_succ_cons, List.take_zero]
          refine StepsOK.cons ?_ (StepsOK.cons ?_ (StepsOK.cons ?_ (StepsOK.cons ?_ (StepsOK.cons ?_ (StepsOK.cons ?_ (StepsOK.cons ?_ (StepsOK.cons ?_ (StepsOK.cons ?_ (StepsOK.cons ?_ (StepsOK.cons ?_ (StepsOK.cons ?_ (StepsOK.cons ?_ (StepsOK.cons ?_ (StepsOK.cons ?_ (StepsOK.cons ?_ (StepsOK.cons ?_ (StepsOK.cons ?_ (StepsOK.cons ?_ (StepsOK.cons ?_ (StepsOK.cons ?_ (StepsOK.cons ?_ (StepsOK.cons ?_ (StepsOK.cons ?_ (StepsOK.cons ?_ (StepsOK.cons ?_ (StepsOK.cons ?_ StepsOK.nil))))))))))))))))))))))))))
          · intro a W L N hR hold hφ hcl hkp hd K hK
            have e8 := hold 8 (by kernel_rfl)
            clear hold hφ hcl hkp hd
            rw [if_pos (by rfl)]
            go_simp
            exact hK _ _ (Only.refl _ _) rfl
          · intro a W L N hR hold hφ hcl hkp hd K hK
            have e31 := got hφ (hd 0 (by kernel_rfl)) rfl rfl rfl
            clear hold hφ hcl hkp hd
            rw [if_pos (by rfl)]
            go_simp
            exact hK _ _ (Only.refl _ _) rfl
          · intro a W L N hR hold hφ hcl hkp hd K hK
            have e32 := got hφ (hd 1 (by kernel_rfl)) rfl rfl rfl
            clear hold hφ hcl hkp hd
            rw [if_pos (by rfl)]
            go_simp
            exact hK _ _ (Only.refl _ _) rfl
          · intro a W L N hR hold hφ hcl hkp hd K hK
            have e6 := hold 6 (by kernel_rfl)
            have e33 := got hφ (hd 2 (by kernel_rfl)) rfl rfl rfl
            clear hold hφ hcl hkp hd
            rw [if_pos (by simp [Region.wanted, yielded, e33])]
            go_simp
            exact hK _ _ (Only.refl _ _) rfl
          · intro a W L N hR hold hφ hcl hkp hd K hK
            have e34 := got hφ (hd 3 (by kernel_rfl)) rfl rfl rfl
            have e33 := got hφ (hd 2 (by kernel_rfl)) rfl rfl rfl
            clear hold hφ hcl hkp hd
            rw [if_pos (by simp [Region.wanted, yielded, e33])]
            go_simp
            exact hK _ _ (Only.refl _ _) rfl
          · intro a W L N hR hold hφ hcl hkp hd K hK
            have e35 := got hφ (hd 4 (by kernel_rfl)) rfl rfl rfl
            have e33 := got hφ (hd 2 (by kernel_rfl)) rfl rfl rfl
            clear hold hφ hcl hkp hd
            rw [if_pos (by simp [Region.wanted, yielded, e33])]
            go_simp
            exact hK _ _ (Only.refl _ _) rfl
          · intro a W L N hR hold hφ hcl hkp hd K hK
            have e33 := got hφ (hd 2 (by kernel_rfl)) rfl rfl rfl
            have e36 := got hφ (hd 5 (by kernel_rfl)) rfl rfl rfl
            clear hold hφ hcl hkp hd
            rw [if_pos (by rfl)]
            go_simp
            exact hK _ _ (Only.refl _ _) rfl
          · intro a W L N hR hold hφ hcl hkp hd K hK
            have e37 := got hφ (hd 6 (by kernel_rfl)) rfl rfl rfl
            clear hold hφ hcl hkp hd
            rw [if_pos (by rfl)]
            go_simp
            exact hK _ _ (Only.refl _ _) rfl
          · intro a W L N hR hold hφ hcl hkp hd K hK
            have e4 := hold 4 (by kernel_rfl)
            have e38 := got hφ (hd 7 (by kernel_rfl)) rfl rfl rfl
            clear hold hφ hcl hkp hd
            rw [if_pos (by simp [Region.wanted, yielded, e38])]
            go_simp
            exact hK _ _ (Only.refl _ _) rfl
          · intro a W L N hR hold hφ hcl hkp hd K hK
            have e5 := hold 5 (by kernel_rfl)
            have e38 := got hφ (hd 7 (by kernel_rfl)) rfl rfl rfl
            clear hold hφ hcl hkp hd
            rw [if_pos (by simp [Region.wanted, yielded, e38])]
            go_simp
            exact hK _ _ (Only.refl _ _) rfl
          · intro a W L N hR hold hφ hcl hkp hd K hK
            have e39 := got hφ (hd 8 (by kernel_rfl)) rfl rfl rfl
            have e40 := got hφ (hd 9 (by kernel_rfl)) rfl rfl rfl
            have e38 := got hφ (hd 7 (by kernel_rfl)) rfl rfl rfl
            clear hold hφ hcl hkp hd
            rw [if_pos (by simp [Region.wanted, yielded, e38])]
            go_simp
            exact hK _ _ (Only.refl _ _) rfl
          · intro a W L N hR hold hφ hcl hkp hd K hK
            have e41 := got hφ (hd 10 (by kernel_rfl)) rfl rfl rfl
            have e38 := got hφ (hd 7 (by kernel_rfl)) rfl rfl rfl
            have hld : W.cell? ⟨w0.heap.size + 1, 3, none⟩ = some (.string ⟨x.toArray⟩) := ((((Only.refl [] w3).drew).plus hR).cell (p := ⟨w0.heap.size + 1, 3, none⟩) hg1 (by simp)).trans hcW
            clear hold hφ hcl hkp hd
            rw [if_pos (by simp [Region.wanted, yielded, e38])]
            go_simp
            exact hK _ _ (Only.refl _ _) rfl
          · intro a W L N hR hold hφ hcl hkp hd K hK
            have e7 := hold 7 (by kernel_rfl)
            have e38 := got hφ (hd 7 (by kernel_rfl)) rfl rfl rfl
            clear hold hφ hcl hkp hd
            rw [if_pos (by simp [Region.wanted, yielded, e38])]
            go_simp
            exact hK _ _ (Only.refl _ _) rfl
          · intro a W L N hR hold hφ hcl hkp hd K hK
            have e43 := got hφ (hd 12 (by kernel_rfl)) rfl rfl rfl
            have e38 := got hφ (hd 7 (by kernel_rfl)) rfl rfl rfl
            clear hold hφ hcl hkp hd
            rw [if_pos (by simp [Region.wanted, yielded, e38])]
            go_simp
            exact hK _ _ (Only.refl _ _) rfl
          · intro a W L N hR hold hφ hcl hkp hd K hK
            have e44 := got hφ (hd 13 (by kernel_rfl)) rfl rfl rfl
            have e38 := got hφ (hd 7 (by kernel_rfl)) rfl rfl rfl
            clear hold hφ hcl hkp hd
            rw [if_pos (by simp [Region.wanted, yielded, e38])]
            go_simp
            exact hK _ _ (Only.refl _ _) rfl
          · intro a W L N hR hold hφ hcl hkp hd K hK
            have e45 := got hφ (hd 14 (by kernel_rfl)) rfl rfl rfl
            have e38 := got hφ (hd 7 (by kernel_rfl)) rfl rfl rfl
            clear hold hφ hcl hkp hd
            rw [if_pos (by simp [Region.wanted, yielded, e38])]
            go_simp
            exact hK _ _ ((Only.refl _ _).alloc _) ⟨_, rfl, IsBlk.made W _⟩
          · intro a W L N hR hold hφ hcl hkp hd K hK
            have e38 := got hφ (hd 7 (by kernel_rfl)) rfl rfl rfl
            obtain ⟨u46, e46, g46, p46, s46⟩ := gotP hφ (hd 15 (by kernel_rfl)) rfl rfl rfl
            have p46 : u46 = .slice (some ⟨g46, 0, none⟩) 1 1 := p46
            subst p46
            clear hold hφ hcl hkp hd
            rw [if_pos (by simp [Region.wanted, yielded, e38])]
            have hcv : (convert 24 9 (.slice (some ⟨g46, 0, none⟩) 1 1)).run Try.prog W = .ok (.string ⟨#[bb]⟩) W := Hconv.out W g46 s46
            go_simp
            exact hK _ _ (Only.refl _ _) rfl
          · intro a W L N hR hold hφ hcl hkp hd K hK
            have e42 := got hφ (hd 11 (by kernel_rfl)) rfl rfl rfl
            have e47 := got hφ (hd 16 (by kernel_rfl)) rfl rfl rfl
            have e38 := got hφ (hd 7 (by kernel_rfl)) rfl rfl rfl
            clear hold hφ hcl hkp hd
            rw [if_pos (by simp [Region.wanted, yielded, e38])]
            have hxe := Hx.out
            go_simp
            exact hK _ _ (Only.refl _ _) rfl
          · intro a W L N hR hold hφ hcl hkp hd K hK
            have e48 := got hφ (hd 17 (by kernel_rfl)) rfl rfl rfl
            have e38 := got hφ (hd 7 (by kernel_rfl)) rfl rfl rfl
            clear hold hφ hcl hkp hd
            rw [if_pos (by simp [Region.wanted, yielded, e38])]
            go_simp
            exact hK _ _ (Only.refl _ _) rfl
          · intro a W L N hR hold hφ hcl hkp hd K hK
            have e5 := hold 5 (by kernel_rfl)
            have e49 := got hφ (hd 18 (by kernel_rfl)) rfl rfl rfl
            clear hold hφ hcl hkp hd
            rw [if_pos (by simp [Region.wanted, yielded, e49])]
            go_simp
            exact hK _ _ (Only.refl _ _) rfl
          · intro a W L N hR hold hφ hcl hkp hd K hK
            have e50 := got hφ (hd 19 (by kernel_rfl)) rfl rfl rfl
            have e49 := got hφ (hd 18 (by kernel_rfl)) rfl rfl rfl
            clear hold hφ hcl hkp hd
            rw [if_pos (by simp [Region.wanted, yielded, e49])]
            go_simp
            exact hK _ _ (Only.refl _ _) rfl
          · intro a W L N hR hold hφ hcl hkp hd K hK
            have e51 := got hφ (hd 20 (by kernel_rfl)) rfl rfl rfl
            have e49 := got hφ (hd 18 (by kernel_rfl)) rfl rfl rfl
            clear hold hφ hcl hkp hd
            rw [if_pos (by simp [Region.wanted, yielded, e49])]
            go_simp
            exact hK _ _ (Only.refl _ _) rfl
          · intro a W L N hR hold hφ hcl hkp hd K hK
            have e7 := hold 7 (by kernel_rfl)
            have e52 := got hφ (hd 21 (by kernel_rfl)) rfl rfl rfl
            clear hold hφ hcl hkp hd
            rw [if_pos (by simp [Region.wanted, yielded, e52])]
            go_simp
            exact hK _ _ (Only.refl _ _) rfl
          · intro a W L N hR hold hφ hcl hkp hd K hK
            have e53 := got hφ (hd 22 (by kernel_rfl)) rfl rfl rfl
            have e52 := got hφ (hd 21 (by kernel_rfl)) rfl rfl rfl
            clear hold hφ hcl hkp hd
            rw [if_pos (by simp [Region.wanted, yielded, e52])]
            go_simp
            exact hK _ _ (Only.refl _ _) rfl
          · intro a W L N hR hold hφ hcl hkp hd K hK
            have e52 := got hφ (hd 21 (by kernel_rfl)) rfl rfl rfl
            have e54 := got hφ (hd 23 (by kernel_rfl)) rfl rfl rfl
            have e49 := got hφ (hd 18 (by kernel_rfl)) rfl rfl rfl
            clear hold hφ hcl hkp hd
            rw [if_pos (by simp [Region.wanted, yielded, e49])]
            go_simp
            exact hK _ _ (Only.refl _ _) rfl
          · intro a W L N hR hold hφ hcl hkp hd K hK
            have e49 := got hφ (hd 18 (by kernel_rfl)) rfl rfl rfl
            have e55 := got hφ (hd 24 (by kernel_rfl)) rfl rfl rfl
            have e38 := got hφ (hd 7 (by kernel_rfl)) rfl rfl rfl
            clear hold hφ hcl hkp hd
            rw [if_pos (by simp [Region.wanted, yielded, e38])]
            go_simp
            exact hK _ _ (Only.refl _ _) rfl
          · intro a W L N hR hold hφ hcl hkp hd K hK
            have e38 := got hφ (hd 7 (by kernel_rfl)) rfl rfl rfl
            have e56 := got hφ (hd 25 (by kernel_rfl)) rfl rfl rfl
            clear hold hφ hcl hkp hd
            rw [if_pos (by rfl)]
            go_simp
            exact hK _ _ (Only.refl _ _) rfl
        · intro us W hO' hus
          have p26 : us 26 = .bool true := hus 26 _ 57 (by omega) rfl rfl
          clear hus
          simp only [List.take_succ_cons, List.take_zero, List.drop_succ_cons, List.drop_zero, fillAct, Act.put, List.setIfInBounds_toArray, List.set_cons_zero, List.set_cons_succ, Nat.reduceAdd, p26]
          clear p26
          have HO4 := Lib.hid (HO3.out.plus (((Only.refl [] w3).drew).plus hO'))
          clear hO'
          go_wp2
          go_ret
          exact ⟨rfl, HO4.out⟩

end Go.Proofs.Ytdneaecahogmhaa
