/-
  What is written of a block, by the document's own package: Verb, block, Body.
-/
import Derived.Test.YtildkedplmjdaaaGreatDoorPbA
namespace Go.Proofs.YtildkedplmjdaaaGreatDoor
set_option maxRecDepth 100000
set_option linter.unusedVariables false
open Go.RowKit Go.Sort

def sepT (ws : List (List UInt8)) : List UInt8 := ws.flatMap fun w => w ++ [32]
theorem sepT_cons (w : List UInt8) (ws : List (List UInt8)) : sepT (w :: ws) = w ++ (32 :: sepT ws) := by simp [sepT]
theorem sepT_append (a b : List (List UInt8)) : sepT (a ++ b) = sepT a ++ sepT b := by simp [sepT]
theorem sepT_put : ∀ (ws : List (List UInt8)) (w : List UInt8), sepT ws ++ w = putM false (ws ++ [w])
  | [], w => by simp [sepT, putM]
  | x :: ws, w => by
    rw [sepT_cons, List.cons_append, putM, if_neg (by simp), List.nil_append, putM_true (by simp), ← sepT_put ws w]
    simp
theorem sepT_words (b : Blk) : sepT (wordsB b) = putM false (wordsB b) ++ [32] := by
  have h1 := sepT_put ([openW] ++ innerM b) closeW
  unfold wordsB
  rw [← h1, sepT_append]
  simp [sepT]
theorem words_sep (b : Blk) : putM false (wordsB b) = sepT (openW :: innerM b) ++ closeW := by
  have h1 := sepT_put ([openW] ++ innerM b) closeW
  unfold wordsB
  rw [← h1]
  rfl
theorem inner_nilL (b : Blk) (h : b.len = 0) : b = .nil := Blk.len_zero b h
theorem ba3 (a b c : List UInt8) : ((⟨a.toArray⟩ : ByteArray) ++ ⟨b.toArray⟩) ++ ⟨c.toArray⟩ = ⟨(a ++ b ++ c).toArray⟩ := by rw [append_list, append_list]
theorem str_app (a b : List UInt8) : (⟨a.toArray⟩ : ByteArray) ++ ⟨b.toArray⟩ = ⟨(a ++ b).toArray⟩ := append_list a b

theorem len_sep : ∀ (b : Blk), b.len ≤ (sepT (innerM b)).length
  | .nil => by simp [Blk.len]
  | .cons k p n a b r => by
    have := len_sep r
    rw [inner_cons, sepT_append, List.length_append, Blk.len]
    have : 0 < (sepT (headM k n a b)).length := by
      unfold headM
      split
      · simp [sepT]; omega
      · split
        · simp [sepT]; omega
        · simp [sepT]; omega
    omega

set_option maxHeartbeats 4000000 in
theorem rverb_any (w : World) (k : Nat) (hk : k ≤ 8) : Calls Tryz.prog 55 #[.int .i64 k] w fun e w' => e = .returned (encStr (verbM k)) ∧ Only [] w w' := by
  have hO1 := (Only.refl [] w).alloc (.cells #[.string ⟨#[]⟩, .string ⟨#[117, 115, 101]⟩, .string ⟨#[115, 101, 116]⟩, .string ⟨#[108, 111, 99, 107]⟩, .string ⟨#[117, 110, 108, 111, 99, 107]⟩, .string ⟨#[99, 97, 108, 108]⟩, .string ⟨#[115, 112, 97, 119, 110]⟩, .string ⟨#[105, 102]⟩, .string ⟨#[108, 111, 111, 112]⟩] 9)
  have hq := IsBlk.made w (.cells #[.string ⟨#[]⟩, .string ⟨#[117, 115, 101]⟩, .string ⟨#[115, 101, 116]⟩, .string ⟨#[108, 111, 99, 107]⟩, .string ⟨#[117, 110, 108, 111, 99, 107]⟩, .string ⟨#[99, 97, 108, 108]⟩, .string ⟨#[115, 112, 97, 119, 110]⟩, .string ⟨#[105, 102]⟩, .string ⟨#[108, 111, 111, 112]⟩] 9)
  have hv : verbM k = ([[], [117, 115, 101], [115, 101, 116], [108, 111, 99, 107], [117, 110, 108, 111, 99, 107], [99, 97, 108, 108], [115, 112, 97, 119, 110], [105, 102], [108, 111, 111, 112]] : List (List UInt8)).getD k [] := by
    have : ∀ i : Fin 9, verbM i.1 = ([[], [117, 115, 101], [115, 101, 116], [108, 111, 99, 107], [117, 110, 108, 111, 99, 107], [99, 97, 108, 108], [115, 112, 97, 119, 110], [105, 102], [108, 111, 111, 112]] : List (List UInt8)).getD i.1 [] := by decide
    exact this ⟨k, by omega⟩
  have hcT : (w.alloc (.cells #[.string ⟨#[]⟩, .string ⟨#[117, 115, 101]⟩, .string ⟨#[115, 101, 116]⟩, .string ⟨#[108, 111, 99, 107]⟩, .string ⟨#[117, 110, 108, 111, 99, 107]⟩, .string ⟨#[99, 97, 108, 108]⟩, .string ⟨#[115, 112, 97, 119, 110]⟩, .string ⟨#[105, 102]⟩, .string ⟨#[108, 111, 111, 112]⟩] 9)).cell? ⟨w.heap.size, k, none⟩ = some (.string ⟨(([[], [117, 115, 101], [115, 101, 116], [108, 111, 99, 107], [117, 110, 108, 111, 99, 107], [99, 97, 108, 108], [115, 112, 97, 119, 110], [105, 102], [108, 111, 111, 112]] : List (List UInt8)).getD k []).toArray⟩) := table_cell [[], [117, 115, 101], [115, 101, 116], [108, 111, 99, 107], [117, 110, 108, 111, 99, 107], [99, 97, 108, 108], [115, 112, 97, 119, 110], [105, 102], [108, 111, 111, 112]] hq k (by simp; omega)
  rw [← hv] at hcT
  clear hv hq
  have hk0 : (0 : Int) ≤ (k : Int) := by omega
  have hk9 : (k : Int) < 9 := by omega
  have HO1 := Lib.hid hO1
  clear hO1
  generalize verbM k = tw at *
  go_enter Tryz.func55, Tryz.ntmps55
  go_wp2
  go_ret
  exact ⟨rfl, HO1.out⟩

theorem sep_step (k p : Nat) (n : List UInt8) (a b r : Blk) (t total : List UInt8) (h : total = t ++ sepT (innerM (.cons k p n a b r))) : total = (t ++ verbM k ++ [32]) ++ (sepT ((headM k n a b).tail) ++ sepT (innerM r)) := by
  rw [h, inner_cons, sepT_append]
  have : ∃ W, headM k n a b = verbM k :: W := by
    unfold headM
    split
    · exact ⟨_, rfl⟩
    · split
      · exact ⟨_, rfl⟩
      · exact ⟨_, rfl⟩
  obtain ⟨W, e⟩ := this
  rw [e, List.tail_cons, sepT_cons]
  simp
theorem head_if (n : List UInt8) (a b : Blk) (h : 0 < b.len) : sepT ((headM 7 n a b).tail) = putM false (wordsB a) ++ [32] ++ [101, 108, 115, 101, 32] ++ putM false (wordsB b) ++ [32] := by
  have e1 : (headM 7 n a b).tail = wordsB a ++ ([elseM] ++ wordsB b) := by
    rw [headM, if_pos rfl, if_neg (by omega)]
    simp [wordsB]
  rw [e1, sepT_append, sepT_append, sepT_words, sepT_words]
  simp [sepT, elseM]
theorem head_if0 (n : List UInt8) (a b : Blk) (h : b.len = 0) : sepT ((headM 7 n a b).tail) = putM false (wordsB a) ++ [32] := by
  have e1 : (headM 7 n a b).tail = wordsB a := by
    rw [headM, if_pos rfl, if_pos h]
    simp [wordsB]
  rw [e1, sepT_words]
theorem head_loop (n : List UInt8) (a b : Blk) : sepT ((headM 8 n a b).tail) = putM false (wordsB a) ++ [32] := by
  have e1 : (headM 8 n a b).tail = wordsB a := by
    rw [headM, if_neg (by omega), if_pos rfl]
    simp [wordsB]
  rw [e1, sepT_words]
theorem head_name (k : Nat) (n : List UInt8) (a b : Blk) (h7 : k ≠ 7) (h8 : k ≠ 8) : sepT ((headM k n a b).tail) = n ++ [32] := by
  rw [headM, if_neg h7, if_neg h8]
  simp [sepT]

set_option maxHeartbeats 16000000 in
theorem rblock_walk (N : Nat) (ih : ∀ b : Blk, b.cnt < N → ∀ (w : World) (v : Value) (fp : List Nat), BlkAt w v b fp → KOk b → (putM false (wordsB b)).length ≤ 10000000 →
      Calls Tryz.prog 36 #[v] w fun e w' => e = .returned (encStr (putM false (wordsB b))) ∧ Only [] w w')
    (b : Blk) (hN : b.cnt ≤ N) (w : World) (v : Value) (fp : List Nat) (h : BlkAt w v b fp) (hk : KOk b) (hL : (putM false (wordsB b)).length ≤ 10000000) :
    Calls Tryz.prog 36 #[v] w fun e w' => e = .returned (encStr (putM false (wordsB b))) ∧ Only [] w w' := by
  have Ih := Lib.hid ih
  have HL := Lib.hid hL
  clear ih
  have h0 : ∃ a c xs fq, v = .slice a b.len c ∧ EncB w b xs fq ∧ (0 < b.len → ∃ g, a = some ⟨g, 0, none⟩ ∧ g < w.heap.size ∧ w.rangeAt g 0 xs) := by
    rcases h with ⟨rfl, h1, rfl⟩ | ⟨g, c, fq, xs, rfl, hc, hn, rfl, ⟨cs, t, hg⟩, hr, he⟩
    · have := Blk.len_zero b h1
      subst this
      exact ⟨none, 0, [], [], rfl, ⟨rfl, rfl⟩, fun h => by simp [Blk.len] at h⟩
    · exact ⟨_, c, xs, fq, rfl, he, fun _ => ⟨g, rfl, hg.lt, hr⟩⟩
  obtain ⟨a, c, xs, fq, rfl, he, hr⟩ := h0
  have He := Lib.hid (And.intro he hr)
  clear he hr h
  have hlt : (sepT (openW :: innerM b)).length ≤ 10000000 := by rw [words_sep, List.length_append] at hL; omega
  clear hL
  have hbl : b.len ≤ 10000000 := by
    have h1 := len_sep b
    have h2 := hlt
    rw [sepT_cons, List.length_append, List.length_cons] at h2
    omega
  rw [words_sep]
  generalize htot : sepT (openW :: innerM b) = total at *
  have Htot := Lib.hid htot
  clear htot
  unfold encStr
  go_enter Tryz.func36, Tryz.ntmps36
  go_wp2_with fail
  go_loopg [3, 4] 1000000000 (fun gk sv iv wr => ∃ (j : Nat) (rs : Blk) (xr : List Value) (fr : List Nat) (t : List UInt8), iv = .int .i64 j ∧ j + rs.len = b.len ∧ rs.len ≤ gk ∧ rs.cnt ≤ N ∧ KOk rs ∧ EncB w rs xr fr ∧
      (0 < rs.len → ∃ g, a = some ⟨g, 0, none⟩ ∧ g < w.heap.size ∧ w.rangeAt g (j * 5) xr) ∧ sv = .string ⟨t.toArray⟩ ∧ Hid (total = t ++ sepT (innerM rs)) ∧ Only [] w wr)
  case atStart =>
    refine ⟨0, b, xs, fq, [123, 32], rfl, by omega, ?_, hN, hk, He.out.1, fun h => ?_, rfl, Lib.hid ?_, Only.refl _ _⟩
    · have h1 := b.len_cnt
      have h2 : b.len ≤ total.length := by
        rw [← Htot.out, sepT_cons, List.length_append, List.length_cons]
        have := len_sep b
        omega
      omega
    · obtain ⟨g, h1, h2, h3⟩ := He.out.2 h
      exact ⟨g, h1, h2, by rw [Nat.zero_mul]; exact h3⟩
    · rw [← Htot.out, sepT_cons]
      rfl
  case round =>
    obtain ⟨j, rs, xr, fr, t, rfl, hjl, hgk, hrc, hrk, hE, hra, rfl, hX, hO⟩ := hrel
    have HO := Lib.hid hO
    clear hO
    cases rs with
    | nil =>
      have hji : ¬ (j : Int) < (b.len : Int) := by simp only [Blk.len] at hjl; omega
      have hXt : total = t := by rw [hX.out]; simp [innerM, sepT]
      subst hXt
      have htl : (total.length : Int) + 1 ≤ 9223372036854775807 := by omega
      go_wp2_with fail
      go_ret
      exact ⟨congrArg (fun x => Ending.returned (Value.string x)) (append_list total closeW), HO.out⟩
    | cons kd pl nm A B rr =>
      have hji : (j : Int) < (b.len : Int) := by simp only [Blk.len] at hjl; omega
      obtain ⟨va, vb, fa, fb, fr', xr', rfl, rfl, hA, hB, hE'⟩ := hE
      obtain ⟨g, hag, hg, hrx⟩ := hra (by simp [Blk.len])
      obtain ⟨k8, hkA, hkB, hkr⟩ := hrk
      have HA' := Lib.hid (show BlkAt w va A fa from hA)
      have HB' := Lib.hid (show BlkAt w vb B fb from hB)
      obtain ⟨aa, ca, rfl, -⟩ := RowE.slice hA
      obtain ⟨ab, cb, rfl, -⟩ := RowE.slice hB
      have hcc : A.cnt < N ∧ B.cnt < N ∧ rr.cnt ≤ N := by simp only [Blk.cnt] at hrc; omega
      have hcl : ∀ W, Only [] wr W → W.cell? ⟨g, j * 5, none⟩ = some (.int .i64 kd) ∧ W.cell? ⟨g, j * 5 + 2, none⟩ = some (.string ⟨nm.toArray⟩) ∧ W.cell? ⟨g, j * 5 + 3, none⟩ = some (.slice aa A.len ca) ∧ W.cell? ⟨g, j * 5 + 4, none⟩ = some (.slice ab B.len cb) ∧ g < W.heap.size := fun W hW =>
        ⟨((HO.out.plus hW).cell (p := ⟨g, j * 5, none⟩) hg (by simp)).trans (hrx 0 _ rfl), ((HO.out.plus hW).cell (p := ⟨g, j * 5 + 2, none⟩) hg (by simp)).trans (hrx 2 _ rfl),
          ((HO.out.plus hW).cell (p := ⟨g, j * 5 + 3, none⟩) hg (by simp)).trans (hrx 3 _ rfl), ((HO.out.plus hW).cell (p := ⟨g, j * 5 + 4, none⟩) hg (by simp)).trans (hrx 4 _ rfl), Nat.lt_of_lt_of_le hg (HO.out.plus hW).size⟩
      have hrx2 := Lib.hid (fun i u (hu : xr'[i]? = some u) => hrx (i + 5) u hu)
      have HE := Lib.hid hE'
      have Hcl := Lib.hid hcl
      have hX2 := sep_step kd pl nm A B rr t total hX.out
      have hlen := congrArg List.length hX2
      simp only [List.length_append, List.length_cons, List.length_nil] at hlen
      have HX2 := Lib.hid hX2
      clear hrx hE' hra hcl hX hX2 hA hB
      have hvl : (t.length : Int) + ((verbM kd).length : Int) ≤ 9223372036854775807 := by omega
      rw [hag]
      go_upto_block 1 with fail
      go_cut [3] (fun sv wx => ∃ t' : List UInt8, sv = .string ⟨t'.toArray⟩ ∧ Hid (total = t' ++ sepT (innerM rr)) ∧ Only [] wr wx)
      case first =>
        obtain ⟨c0, c2, c3, c4, c5⟩ := Hcl.out wr (Only.refl _ _)
        go_wp2_with fail
        refine (rverb_any wr kd k8).mono ?_
        rintro e w1 ⟨rfl, hO1⟩
        have HO1 := Lib.hid hO1
        unfold encStr
        clear c0 c2 c3 c4 c5
        obtain ⟨c0, c2, c3, c4, c5⟩ := Hcl.out w1 hO1
        clear hO1
        generalize verbM kd = vk at *
        have ht1 : (t ++ vk ++ [32]).length = t.length + vk.length + 1 := by simp; omega
        have hvl2 : ((t ++ vk).length : Int) + 1 ≤ 9223372036854775807 := by simp; omega
        go_upto_region 6 with fail
        rw [show ((⟨t.toArray⟩ : ByteArray) ++ ⟨vk.toArray⟩) ++ ⟨#[32]⟩ = ⟨(t ++ vk ++ [32]).toArray⟩ from ba3 t vk [32]]
        generalize t ++ vk ++ [32] = t1 at *
        clear hvl hvl2
        by_cases k7 : kd = 7
        · subst k7
          by_cases hb : 0 < B.len
          · have hT := head_if nm A B hb
            have hTl := congrArg List.length hT
            simp only [List.length_append, List.length_cons, List.length_nil] at hTl
            have HT := Lib.hid hT
            have hbi : (0 : Int) < (B.len : Int) := by omega
            have hIA := Ih.out A hcc.1 w1 _ fa (HA'.out.more (HO.out.plus HO1.out)) hkA (by omega)
            have HIB := Lib.hid (fun W hW => Ih.out B hcc.2.1 W _ fb (HB'.out.more ((HO.out.plus HO1.out).plus hW)) hkB (by omega))
            clear hT
            have hl2 : (sepT ((headM 7 nm A B).tail)).length ≤ 10000000 := by omega
            have hlt1 : t1.length ≤ 10000000 := by omega
            clear hlen
            generalize sepT ((headM 7 nm A B).tail) = TT at *
            generalize putM false (wordsB A) = TA at *
            generalize putM false (wordsB B) = TB at *
            have hz1 : (t1.length : Int) + (TA.length : Int) ≤ 9223372036854775807 := by omega
            have hz2 : ((t1 ++ TA).length : Int) + 1 ≤ 9223372036854775807 := by simp; omega
            go_wp2_with fail
            refine hIA.mono ?_
            rintro e w2 ⟨rfl, hO2⟩
            have HO2 := Lib.hid hO2
            unfold encStr
            clear c0 c2 c3 c4 c5 hIA
            obtain ⟨c0, c2, c3, c4, c5⟩ := Hcl.out w2 (HO1.out.plus hO2)
            clear hO2
            go_upto_region 10 with fail
            rw [show ((⟨t1.toArray⟩ : ByteArray) ++ ⟨TA.toArray⟩) ++ ⟨#[32]⟩ = ⟨(t1 ++ TA ++ [32]).toArray⟩ from ba3 t1 TA [32]]
            have hl3 : (t1 ++ TA ++ [32]).length = t1.length + TA.length + 1 := by simp; omega
            have Hta : Hid (t1 ++ TT = (t1 ++ TA ++ [32]) ++ [101, 108, 115, 101, 32] ++ TB ++ [32]) := Lib.hid (by rw [HT.out]; simp)
            generalize t1 ++ TA ++ [32] = t2 at *
            have hz3 : (t2.length : Int) + 5 ≤ 9223372036854775807 := by omega
            have hIB := HIB.out w2 HO2.out
            go_wp2_with fail
            refine hIB.mono ?_
            rintro e w3 ⟨rfl, hO3⟩
            have HO3 := Lib.hid hO3
            unfold encStr
            clear hIB hO3 c0 c2 c3 c4 c5
            rw [show (⟨t2.toArray⟩ : ByteArray) ++ ⟨#[101, 108, 115, 101, 32]⟩ = ⟨(t2 ++ [101, 108, 115, 101, 32]).toArray⟩ from append_list t2 [101, 108, 115, 101, 32]]
            have hl4 : (t2 ++ [101, 108, 115, 101, 32]).length = t2.length + 5 := by simp
            generalize t2 ++ [101, 108, 115, 101, 32] = t3 at *
            have hz4 : (t3.length : Int) + (TB.length : Int) ≤ 9223372036854775807 := by omega
            have hz5 : ((t3 ++ TB).length : Int) + 1 ≤ 9223372036854775807 := by simp; omega
            go_wp2_with fail
            go_meet
            exact ⟨t1 ++ TT, by rw [show ((⟨t3.toArray⟩ : ByteArray) ++ ⟨TB.toArray⟩) ++ ⟨#[32]⟩ = ⟨(t3 ++ TB ++ [32]).toArray⟩ from ba3 t3 TB [32], Hta.out], Lib.hid (by rw [HX2.out, List.append_assoc]), HO1.out.plus (HO2.out.plus HO3.out)⟩
          · have hT := head_if0 nm A B (by omega)
            have hTl := congrArg List.length hT
            simp only [List.length_append, List.length_cons, List.length_nil] at hTl
            have HT := Lib.hid hT
            have hbi : ¬ (0 : Int) < (B.len : Int) := by omega
            have hIA := Ih.out A hcc.1 w1 _ fa (HA'.out.more (HO.out.plus HO1.out)) hkA (by omega)
            clear hT
            have hl2 : (sepT ((headM 7 nm A B).tail)).length ≤ 10000000 := by omega
            have hlt1 : t1.length ≤ 10000000 := by omega
            clear hlen
            generalize sepT ((headM 7 nm A B).tail) = TT at *
            generalize putM false (wordsB A) = TA at *
            have hz1 : (t1.length : Int) + (TA.length : Int) ≤ 9223372036854775807 := by omega
            have hz2 : ((t1 ++ TA).length : Int) + 1 ≤ 9223372036854775807 := by simp; omega
            go_wp2_with fail
            refine hIA.mono ?_
            rintro e w2 ⟨rfl, hO2⟩
            have HO2 := Lib.hid hO2
            unfold encStr
            clear c0 c2 c3 c4 c5 hIA
            obtain ⟨c0, c2, c3, c4, c5⟩ := Hcl.out w2 (HO1.out.plus hO2)
            clear hO2
            go_wp2_with fail
            go_meet
            exact ⟨t1 ++ TT, by rw [show ((⟨t1.toArray⟩ : ByteArray) ++ ⟨TA.toArray⟩) ++ ⟨#[32]⟩ = ⟨(t1 ++ TA ++ [32]).toArray⟩ from ba3 t1 TA [32], HT.out, List.append_assoc], Lib.hid (by rw [HX2.out, List.append_assoc]), HO1.out.plus HO2.out⟩
        · by_cases k8' : kd = 8
          · subst k8'
            have hT := head_loop nm A B
            have hTl := congrArg List.length hT
            simp only [List.length_append, List.length_cons, List.length_nil] at hTl
            have HT := Lib.hid hT
            have hIA := Ih.out A hcc.1 w1 _ fa (HA'.out.more (HO.out.plus HO1.out)) hkA (by omega)
            clear hT
            have hl2 : (sepT ((headM 8 nm A B).tail)).length ≤ 10000000 := by omega
            have hlt1 : t1.length ≤ 10000000 := by omega
            clear hlen
            generalize sepT ((headM 8 nm A B).tail) = TT at *
            generalize putM false (wordsB A) = TA at *
            have hz1 : (t1.length : Int) + (TA.length : Int) ≤ 9223372036854775807 := by omega
            have hz2 : ((t1 ++ TA).length : Int) + 1 ≤ 9223372036854775807 := by simp; omega
            go_wp2_with fail
            refine hIA.mono ?_
            rintro e w2 ⟨rfl, hO2⟩
            have HO2 := Lib.hid hO2
            unfold encStr
            clear c0 c2 c3 c4 c5 hIA hO2
            go_wp2_with fail
            go_meet
            exact ⟨t1 ++ TT, by rw [show ((⟨t1.toArray⟩ : ByteArray) ++ ⟨TA.toArray⟩) ++ ⟨#[32]⟩ = ⟨(t1 ++ TA ++ [32]).toArray⟩ from ba3 t1 TA [32], HT.out, List.append_assoc], Lib.hid (by rw [HX2.out, List.append_assoc]), HO1.out.plus HO2.out⟩
          · have hT := head_name kd nm A B k7 k8'
            have hTl := congrArg List.length hT
            simp only [List.length_append, List.length_cons, List.length_nil] at hTl
            have HT := Lib.hid hT
            have h7b : ((kd : Int) == 7) = false := by simp; omega
            have h8b : ((kd : Int) == 8) = false := by simp; omega
            clear hT
            have hl2 : (sepT ((headM kd nm A B).tail)).length ≤ 10000000 := by omega
            have hlt1 : t1.length ≤ 10000000 := by omega
            clear hlen
            generalize sepT ((headM kd nm A B).tail) = TT at *
            have hz1 : (t1.length : Int) + (nm.length : Int) ≤ 9223372036854775807 := by omega
            have hz2 : ((t1 ++ nm).length : Int) + 1 ≤ 9223372036854775807 := by simp; omega
            go_wp2_with fail
            go_meet
            exact ⟨t1 ++ TT, by rw [show ((⟨t1.toArray⟩ : ByteArray) ++ ⟨nm.toArray⟩) ++ ⟨#[32]⟩ = ⟨(t1 ++ nm ++ [32]).toArray⟩ from ba3 t1 nm [32], HT.out, List.append_assoc], Lib.hid (by rw [HX2.out, List.append_assoc]), HO1.out⟩
      case rest =>
        obtain ⟨t', rfl, hX', hOx⟩ := hcut
        have HOx := Lib.hid hOx
        clear hOx
        go_wp2
        rw [← hag]
        go_roundg rr.len
        case measure => simp only [Blk.len] at hgk; omega
        case rel =>
          refine ⟨j + 1, rr, xr', fr', _, by go_num, by simp only [Blk.len] at hjl; omega, Nat.le_refl _, hcc.2.2, hkr, HE.out, fun h => ⟨g, hag, hg, fun i u hu => ?_⟩, rfl, hX', HO.out.plus HOx.out⟩
          have := hrx2.out i u hu
          rw [show (j + 1) * 5 + i = j * 5 + (i + 5) by omega]
          exact this

theorem rblock_any : ∀ (N : Nat) (b : Blk), b.cnt ≤ N → ∀ (w : World) (v : Value) (fp : List Nat), BlkAt w v b fp → KOk b → (putM false (wordsB b)).length ≤ 10000000 →
      Calls Tryz.prog 36 #[v] w fun e w' => e = .returned (encStr (putM false (wordsB b))) ∧ Only [] w w'
  | 0, b, hN, w, v, fp, h, hk, hL => rblock_walk 0 (fun b h => absurd h (by omega)) b hN w v fp h hk hL
  | N + 1, b, hN, w, v, fp, h, hk, hL => rblock_walk (N + 1) (fun b h => rblock_any N b (by omega)) b hN w v fp h hk hL

set_option maxHeartbeats 4000000 in
theorem rbody_any (w : World) (nm at_ v : Value) (b : Blk) (fp : List Nat) (h : BlkAt w v b fp) (hk : KOk b) (hL : (putM false (wordsB b)).length ≤ 10000000) :
    Calls Tryz.prog 16 #[.agg #[nm, at_, v]] w fun e w' => e = .returned (encStr (putM false (wordsB b))) ∧ Only [] w w' := by
  have hO1 := (Only.refl [] w).alloc (.cells #[nm, at_, v] 51)
  have hq := IsBlk.made w (.cells #[nm, at_, v] 51)
  have q2 := hq.cell 2
  have ql := hq.lt
  have H := Lib.hid (rblock_any _ b (Nat.le_refl _) _ v fp (h.more hO1) hk hL)
  obtain ⟨a, c, rfl, -⟩ := h.slice
  have HO1 := Lib.hid hO1
  clear hO1 h hq
  go_enter Tryz.func16, Tryz.ntmps16
  go_wp2_with fail
  refine H.out.mono ?_
  rintro e w1 ⟨rfl, hO⟩
  go_wp2
  go_ret
  exact ⟨rfl, HO1.out.plus hO⟩

end Go.Proofs.YtildkedplmjdaaaGreatDoor
