/-
  Numbers and texts that came in; the laws' helper Text.
-/
import Derived.Test.YtildkedplmjdaaaGreatDoorLxF
import Derived.Deep.Slices
import Derived.Deep.Fields
namespace Go.Proofs.YtildkedplmjdaaaGreatDoor
set_option maxRecDepth 100000
set_option linter.unusedVariables false
open Go.RowKit Go.Sort Go.ChangeShapes Go.WideShapes Go.Deep

/-- Numbers in a row. -/
def IntsAt (w : World) (a : Option Addr) (len : Nat) (ns : List Int) : Prop :=
  ns.length = len ∧ (0 < len → ∃ b o, a = some ⟨b, o, none⟩ ∧ b < w.heap.size ∧ ∀ (i : Nat) (n : Int), ns[i]? = some n → w.cell? ⟨b, o + i, none⟩ = some (.int .i64 n))
theorem IntsAt.more {w w' : World} {a : Option Addr} {len : Nat} {ns : List Int} (h : IntsAt w a len ns) (hO : Only [] w w') : IntsAt w' a len ns :=
  ⟨h.1, fun hp => by
    obtain ⟨b, o, rfl, hb, hc⟩ := h.2 hp
    exact ⟨b, o, rfl, Nat.lt_of_lt_of_le hb hO.size, fun i n hn => (hO.cell (p := ⟨b, _, none⟩) hb (by simp)).trans (hc i n hn)⟩⟩
def IntsArg (w : World) (a : Option Addr) (len : Nat) (ns : List Int) : Prop := IntsAt w a len ns ∧ len ≤ maxLen

theorem ints_of_read {H : Type} {enc : TypeId × Value → H} {W : World} {a : Option Addr} {len cap : Nat} {d : DataW H} {p : List MemPlace}
    (h : DataW.Trod enc Tryz.prog W 0 (fun _ => true) true 23 (.slice a len cap) d p) : ∃ L, IntsArg W a len L := by
  obtain ⟨fuel, hf⟩ := h
  rcases open_slice Tryz.underlying23 hf with ⟨hcs, _⟩ | ⟨x, l, c, m, n, D, Pl, hcs, _, hl, hm, hmm, _, hx⟩
  · simp [Value.cells] at hcs
    obtain ⟨rfl, rfl, rfl⟩ := hcs
    exact ⟨[], ⟨rfl, fun h => by omega⟩, by simp⟩
  · simp [Value.cells] at hcs
    obtain ⟨rfl, rfl, rfl⟩ := hcs
    have c36 : Tryz.prog.cellsOf 3 = 1 := by kernel_rfl
    rw [c36] at hx
    have hm' : m = cap := by simpa using hmm
    by_cases h0 : len = 0
    · subst h0; exact ⟨[], ⟨rfl, fun h => by omega⟩, by simp⟩
    obtain ⟨b, o, sp0⟩ := x
    have hspot : sp0 = none := by
      obtain ⟨cs', hc, _⟩ := hx 0 (by omega)
      obtain ⟨_, hcl, hat⟩ := World.cells?_some hc
      have h1 := hat 0 (by omega)
      rw [List.getElem?_eq_getElem (by omega)] at h1
      simpa [Addr.add] using World.cell?_spot h1
    subst hspot
    have hb : b < W.heap.size := by
      obtain ⟨cs', hc, _⟩ := hx 0 (by omega)
      obtain ⟨_, hcl, hat⟩ := World.cells?_some hc
      have h1 := hat 0 (by omega)
      rw [List.getElem?_eq_getElem (by omega)] at h1
      have := World.block_lt_of_cell? W _ h1
      simpa [Addr.add] using this
    have hall : ∀ i, i < len → ∃ z : Int, W.cell? ⟨b, o + i, none⟩ = some (.int .i64 z) := fun i hi => by
      obtain ⟨cs', hc, ht⟩ := hx i (by omega)
      obtain ⟨_, hcl, hat⟩ := World.cells?_some hc
      obtain ⟨z, e, _, _⟩ := DataW.trod_int Tryz.underlying3 ht
      subst e
      have := hat 0 (by omega)
      rw [Addr.add_mid, Addr.add_mid] at this
      simp at this
      exact ⟨z, this⟩
    have : ∀ k, k ≤ len → ∃ L : List Int, L.length = k ∧ ∀ (i : Nat) (z : Int), L[i]? = some z → W.cell? ⟨b, o + i, none⟩ = some (.int .i64 z) := by
      intro k
      induction k with
      | zero => intro _; exact ⟨[], rfl, fun i c h => by simp at h⟩
      | succ k ih =>
        intro hk
        obtain ⟨L, hL, hLc⟩ := ih (by omega)
        obtain ⟨c, hc⟩ := hall k (by omega)
        refine ⟨L ++ [c], by simp [hL], fun i c' h => ?_⟩
        rcases Nat.lt_or_ge i L.length with hi | hi
        · rw [List.getElem?_append_left hi] at h; exact hLc i c' h
        · rw [List.getElem?_append_right hi] at h
          have hik : i = k := by
            have := (List.getElem?_eq_some_iff.1 h).1; simp at this; omega
          subst hik
          simp [hL] at h
          subst h
          exact hc
    obtain ⟨L, hL, hLc⟩ := this len (Nat.le_refl _)
    exact ⟨L, ⟨hL, fun _ => ⟨b, o, rfl, hb, hLc⟩⟩, by omega⟩


/-- A table of texts, laid as a row. -/
theorem table_cell {w : World} {g : Nat} {t : TypeId} (T : List (List UInt8)) (h : IsBlk w g (.cells (T.map encStr).toArray t)) (i : Nat) (hi : i < T.length) : w.cell? ⟨g, i, none⟩ = some (.string ⟨(T.getD i []).toArray⟩) := by
  rw [h.cell]
  simp [hi]
theorem inM_lti (x : Int) (n : Nat) (hn0 : 0 < n) : (inM x n : Int) < (n : Int) := by have := inM_lt x n hn0; omega

theorem append_list (a b : List UInt8) : (⟨a.toArray⟩ : ByteArray) ++ ⟨b.toArray⟩ = ⟨(a ++ b).toArray⟩ := by
  apply ByteArray.ext
  simp

def tableT : List (List UInt8) := [[123], [125], [32], [120], [108], [109, 97, 105, 110], [117, 115, 101, 32], [115, 101, 116, 32], [108, 111, 99, 107, 32], [117, 110, 108, 111, 99, 107, 32], [99, 97, 108, 108, 32], [115, 112, 97, 119, 110, 32], [105, 102, 32], [101, 108, 115, 101, 32], [108, 111, 111, 112, 32], [118, 97, 114, 32], [102, 117, 110, 99, 32], [102, 32], [57], [10], [9], [65], [109, 50], [97, 98, 99, 100, 101, 102, 103, 104, 105, 106, 107, 108, 109]]
def textW (z : Int) : List UInt8 := tableT.getD (inM z 24) []
def textM (ns : List Int) (k : Nat) : List UInt8 := (ns.take k).flatMap textW
theorem textW_len (z : Int) : (textW z).length ≤ 13 := by
  have h : inM z 24 < 24 := inM_lt z 24 (by omega)
  unfold textW
  generalize inM z 24 = i at *
  have : ∀ i : Fin 24, (tableT.getD i.1 []).length ≤ 13 := by decide
  exact this ⟨i, h⟩
theorem textM_succ (ns : List Int) (k : Nat) (hk : k < ns.length) : textM ns (k + 1) = textM ns k ++ textW ns[k] := by
  unfold textM
  rw [List.take_add_one, List.getElem?_eq_getElem hk]
  simp only [Option.toList_some, List.flatMap_append, List.flatMap_cons, List.flatMap_nil, List.append_nil]
theorem textM_len (ns : List Int) : ∀ k, (textM ns k).length ≤ 13 * k
  | 0 => by simp [textM]
  | k + 1 => by
    have ih := textM_len ns k
    by_cases hk : k < ns.length
    · rw [textM_succ ns k hk, List.length_append]
      have := textW_len ns[k]
      omega
    · unfold textM at ih ⊢
      rw [List.take_of_length_le (by omega)] at ih ⊢
      omega

set_option maxHeartbeats 4000000 in
theorem text_any (w : World) (a : Option Addr) (len cap : Nat) (ns : List Int) (h : IntsAt w a len ns) (hl : len ≤ maxLen) :
    Calls Tryz.prog 11 #[.slice a len cap] w fun e w' => e = .returned (encStr (textM ns (min len 150))) ∧ Only [] w w' := by
  unfold maxLen at hl
  have H := Lib.hid h
  obtain rfl := h.1
  clear h
  unfold encStr
  go_enter Tryz.func11, Tryz.ntmps11
  go_wp2_with fail
  go_loopw [3, 4] (fun s i wr => ∃ k : Nat, k ≤ ns.length ∧ k ≤ 150 ∧ i = .int .i64 k ∧ s = .string ⟨(textM ns k).toArray⟩ ∧ Only [] w wr) (fun _ i _ => ns.length - (intOf i).toNat)
  case atStart => exact ⟨0, by omega, by omega, rfl, rfl, Only.refl _ _⟩
  case round =>
    obtain ⟨k, hk, hk2, rfl, rfl, hO⟩ := hrel
    have HO := Lib.hid hO
    clear hO
    by_cases hlt : k < ns.length
    · have hlti : (k : Int) < (ns.length : Int) := by omega
      by_cases h150 : k < 150
      · have h150i : (k : Int) < 150 := by omega
        obtain ⟨b, o, rfl, hb, hc⟩ := (H.out.more HO.out).2 (by omega)
        have c0 := hc k _ (List.getElem?_eq_getElem hlt)
        have Htx := Lib.hid (textM_succ ns k hlt)
        have hlen := textM_len ns k
        have hwl := textW_len ns[k]
        generalize ns[k] = z at *
        have hO1 := (Only.refl [] wr).alloc (.cells #[.string ⟨#[123]⟩, .string ⟨#[125]⟩, .string ⟨#[32]⟩, .string ⟨#[120]⟩, .string ⟨#[108]⟩, .string ⟨#[109, 97, 105, 110]⟩, .string ⟨#[117, 115, 101, 32]⟩, .string ⟨#[115, 101, 116, 32]⟩, .string ⟨#[108, 111, 99, 107, 32]⟩, .string ⟨#[117, 110, 108, 111, 99, 107, 32]⟩, .string ⟨#[99, 97, 108, 108, 32]⟩, .string ⟨#[115, 112, 97, 119, 110, 32]⟩, .string ⟨#[105, 102, 32]⟩, .string ⟨#[101, 108, 115, 101, 32]⟩, .string ⟨#[108, 111, 111, 112, 32]⟩, .string ⟨#[118, 97, 114, 32]⟩, .string ⟨#[102, 117, 110, 99, 32]⟩, .string ⟨#[102, 32]⟩, .string ⟨#[57]⟩, .string ⟨#[10]⟩, .string ⟨#[9]⟩, .string ⟨#[65]⟩, .string ⟨#[109, 50]⟩, .string ⟨#[97, 98, 99, 100, 101, 102, 103, 104, 105, 106, 107, 108, 109]⟩] 9)
        have hq := IsBlk.made wr (.cells #[.string ⟨#[123]⟩, .string ⟨#[125]⟩, .string ⟨#[32]⟩, .string ⟨#[120]⟩, .string ⟨#[108]⟩, .string ⟨#[109, 97, 105, 110]⟩, .string ⟨#[117, 115, 101, 32]⟩, .string ⟨#[115, 101, 116, 32]⟩, .string ⟨#[108, 111, 99, 107, 32]⟩, .string ⟨#[117, 110, 108, 111, 99, 107, 32]⟩, .string ⟨#[99, 97, 108, 108, 32]⟩, .string ⟨#[115, 112, 97, 119, 110, 32]⟩, .string ⟨#[105, 102, 32]⟩, .string ⟨#[101, 108, 115, 101, 32]⟩, .string ⟨#[108, 111, 111, 112, 32]⟩, .string ⟨#[118, 97, 114, 32]⟩, .string ⟨#[102, 117, 110, 99, 32]⟩, .string ⟨#[102, 32]⟩, .string ⟨#[57]⟩, .string ⟨#[10]⟩, .string ⟨#[9]⟩, .string ⟨#[65]⟩, .string ⟨#[109, 50]⟩, .string ⟨#[97, 98, 99, 100, 101, 102, 103, 104, 105, 106, 107, 108, 109]⟩] 9)
        have hcT : (wr.alloc (.cells #[.string ⟨#[123]⟩, .string ⟨#[125]⟩, .string ⟨#[32]⟩, .string ⟨#[120]⟩, .string ⟨#[108]⟩, .string ⟨#[109, 97, 105, 110]⟩, .string ⟨#[117, 115, 101, 32]⟩, .string ⟨#[115, 101, 116, 32]⟩, .string ⟨#[108, 111, 99, 107, 32]⟩, .string ⟨#[117, 110, 108, 111, 99, 107, 32]⟩, .string ⟨#[99, 97, 108, 108, 32]⟩, .string ⟨#[115, 112, 97, 119, 110, 32]⟩, .string ⟨#[105, 102, 32]⟩, .string ⟨#[101, 108, 115, 101, 32]⟩, .string ⟨#[108, 111, 111, 112, 32]⟩, .string ⟨#[118, 97, 114, 32]⟩, .string ⟨#[102, 117, 110, 99, 32]⟩, .string ⟨#[102, 32]⟩, .string ⟨#[57]⟩, .string ⟨#[10]⟩, .string ⟨#[9]⟩, .string ⟨#[65]⟩, .string ⟨#[109, 50]⟩, .string ⟨#[97, 98, 99, 100, 101, 102, 103, 104, 105, 106, 107, 108, 109]⟩] 9)).cell? ⟨wr.heap.size, inM z 24, none⟩ = some (.string ⟨(textW z).toArray⟩) := table_cell tableT hq (inM z 24) (inM_lt z 24 (by omega))
        have hcz : (wr.alloc (.cells #[.string ⟨#[123]⟩, .string ⟨#[125]⟩, .string ⟨#[32]⟩, .string ⟨#[120]⟩, .string ⟨#[108]⟩, .string ⟨#[109, 97, 105, 110]⟩, .string ⟨#[117, 115, 101, 32]⟩, .string ⟨#[115, 101, 116, 32]⟩, .string ⟨#[108, 111, 99, 107, 32]⟩, .string ⟨#[117, 110, 108, 111, 99, 107, 32]⟩, .string ⟨#[99, 97, 108, 108, 32]⟩, .string ⟨#[115, 112, 97, 119, 110, 32]⟩, .string ⟨#[105, 102, 32]⟩, .string ⟨#[101, 108, 115, 101, 32]⟩, .string ⟨#[108, 111, 111, 112, 32]⟩, .string ⟨#[118, 97, 114, 32]⟩, .string ⟨#[102, 117, 110, 99, 32]⟩, .string ⟨#[102, 32]⟩, .string ⟨#[57]⟩, .string ⟨#[10]⟩, .string ⟨#[9]⟩, .string ⟨#[65]⟩, .string ⟨#[109, 50]⟩, .string ⟨#[97, 98, 99, 100, 101, 102, 103, 104, 105, 106, 107, 108, 109]⟩] 9)).cell? ⟨b, o + k, none⟩ = some (.int .i64 z) := (hO1.cell (p := ⟨b, o + k, none⟩) hb (by simp)).trans c0
        have hiz := inM_lti z 24 (by omega)
        have HO1 := Lib.hid (HO.out.plus hO1)
        clear hO1 hq hc c0
        generalize textM ns k = tx at *
        generalize textW z = tw at *
        have htl : (tx.length : Int) + (tw.length : Int) ≤ 9223372036854775807 := by omega
        go_wp2_with fail
        refine (within5_to _ z 24 (by omega) (by omega)).mono ?_
        rintro e w' ⟨rfl, rfl⟩
        rw [show (24 : Int).toNat = 24 from rfl]
        go_wp2
        go_roundw
        case rel => exact ⟨k + 1, by omega, by omega, by go_num, by rw [Htx.out, append_list], HO1.out⟩
        case measure => simp [intOf]; omega
      · have h150i : ¬ (k : Int) < 150 := by omega
        go_wp2
        go_ret
        rw [show min ns.length 150 = k by omega]
        exact ⟨rfl, HO.out⟩
    · have hge : ¬ (k : Int) < (ns.length : Int) := by omega
      go_wp2
      go_ret
      rw [show min ns.length 150 = k by omega]
      exact ⟨rfl, HO.out⟩

end Go.Proofs.YtildkedplmjdaaaGreatDoor
