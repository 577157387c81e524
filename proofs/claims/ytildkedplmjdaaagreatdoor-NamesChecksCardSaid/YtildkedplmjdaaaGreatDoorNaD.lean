/-
  bound of the package names: how much there may be.
-/
import Derived.Test.YtildkedplmjdaaaGreatDoorNaB
import Derived.Sort.BigQuietIn
namespace Go.Proofs.YtildkedplmjdaaaGreatDoor
set_option maxRecDepth 100000
set_option linter.unusedVariables false
open Go.RowKit Go.Sort

theorem len_cntB : ∀ b : Blk, b.len ≤ cntB b
  | .nil => Nat.le_refl _
  | .cons _ _ _ a b r => by have := len_cntB r; simp only [Blk.len, cntB]; omega

/-- What is left of the room; a fault, where it is too small. -/
def CountTo (w : World) (n room : Nat) (r : Ending) (w' : World) : Prop :=
  (n ≤ room ∧ r = .returned (.int .i64 ((room - n : Nat) : Int)) ∨ room < n ∧ r = errnoE 2) ∧ Only [] w w'

/-- A row of statements, opened. -/
theorem blk7_open {w : World} {a : Option Addr} {c : Nat} {b : Blk} {fp : List Nat} (h : BlkAt w (.slice a b.len c) b fp) :
    ∃ xs fq, EncB w b xs fq ∧ (0 < b.len → ∃ g, a = some ⟨g, 0, none⟩ ∧ g < w.heap.size ∧ w.rangeAt g (0 * 5) xs) := by
  rcases h with ⟨h1, h2, h3⟩ | ⟨g, c', fq, xs, h1, hc, hn, hfp, ⟨cs, t, hg⟩, hr, he⟩
  · refine ⟨[], [], ?_, fun h => by omega⟩
    have := Blk.len_zero b h2
    subst this
    exact ⟨rfl, rfl⟩
  · injection h1 with h1 h4 h5
    exact ⟨xs, fq, he, fun _ => ⟨g, h1, hg.lt, by rw [Nat.zero_mul]; exact hr⟩⟩

set_option maxHeartbeats 8000000 in
theorem count_step (N : Nat) (ih : ∀ b : Blk, cntB b < N → ∀ (w : World) (v : Value) (fp : List Nat) (room : Nat), BlkAt w v b fp → cntB b ≤ 1000000 → room ≤ 1000 → Calls Tryz.prog 71 #[v, .int .i64 room] w (CountTo w (cntB b) room))
    (b : Blk) (hN : cntB b ≤ N) (w : World) (v : Value) (fp : List Nat) (room : Nat) (h : BlkAt w v b fp) (hbig : cntB b ≤ 1000000) (hroom : room ≤ 1000) :
    Calls Tryz.prog 71 #[v, .int .i64 room] w (CountTo w (cntB b) room) := by
  obtain ⟨a, c, rfl, hc⟩ := h.slice
  obtain ⟨xs, fq, hE, hra⟩ := blk7_open h
  have H := Lib.hid (And.intro hE hra)
  have Ih := Lib.hid ih
  have hlen := len_cntB b
  clear h hE hra ih
  go_enter Tryz.func71, Tryz.ntmps71
  go_wp2_with fail
  go_loopw [1, 9] (fun mv iv wr => ∃ (j m : Nat) (rs : Blk) (xr : List Value) (fr : List Nat), mv = .int .i64 m ∧ iv = .int .i64 j ∧ j + rs.len = b.len ∧ cntB rs ≤ N ∧ cntB rs ≤ 1000000 ∧ EncB w rs xr fr ∧
      (0 < rs.len → ∃ g, a = some ⟨g, 0, none⟩ ∧ g < w.heap.size ∧ w.rangeAt g (j * 5) xr) ∧ m + cntB b = room + cntB rs ∧ m ≤ 1000 ∧ Only [] w wr) (fun _ iv _ => b.len - (intOf iv).toNat)
  case atStart => exact ⟨0, room, b, xs, fq, rfl, rfl, by omega, hN, hbig, H.out.1, H.out.2, rfl, hroom, Only.refl _ _⟩
  case round =>
    obtain ⟨j, m, rs, xr, fr, rfl, rfl, hjl, hrc, hrb, hE, hra, hm, hm2, hO⟩ := hrel
    have HO := Lib.hid hO
    clear hO
    cases rs with
    | nil =>
      have hji : ¬ (j : Int) < (b.len : Int) := by simp only [Blk.len] at hjl; omega
      go_wp2_with fail
      go_ret
      simp only [cntB] at hm
      have e : room - cntB b = m := by omega
      exact ⟨.inl ⟨by omega, by rw [e]; rfl⟩, HO.out⟩
    | cons kd pl nm A B rr =>
      obtain ⟨va, vb, fa, fb, fr', xr', rfl, rfl, hA, hB, hE'⟩ := hE
      obtain ⟨aa, ca, rfl, hca⟩ := RowE.slice hA
      obtain ⟨ab, cb, rfl, hcb⟩ := RowE.slice hB
      obtain ⟨gx, hxa, hgx, hrx⟩ := hra (by simp [Blk.len])
      have hrz := rangeAt_only hrx HO.out hgx (by simp)
      have k0 : wr.cell? ⟨gx, j * 5, none⟩ = some (.int .i64 kd) := hrz 0 _ rfl
      have k1 : wr.cell? ⟨gx, j * 5 + 1, none⟩ = some (.int .i64 pl) := hrz 1 _ rfl
      have k2 : wr.cell? ⟨gx, j * 5 + 2, none⟩ = some (.string ⟨nm.toArray⟩) := hrz 2 _ rfl
      have k3 : wr.cell? ⟨gx, j * 5 + 3, none⟩ = some (.slice aa A.len ca) := hrz 3 _ rfl
      have k4 : wr.cell? ⟨gx, j * 5 + 4, none⟩ = some (.slice ab B.len cb) := hrz 4 _ rfl
      have hgxz : gx < wr.heap.size := Nat.lt_of_lt_of_le hgx HO.out.size
      have hji : (j : Int) < (b.len : Int) := by simp only [Blk.len] at hjl; omega
      have hcc : cntB A < N ∧ cntB B < N ∧ cntB rr ≤ N := by simp only [cntB] at hrc; omega
      have hcb2 : cntB A ≤ 1000000 ∧ cntB B ≤ 1000000 ∧ cntB rr ≤ 1000000 := by simp only [cntB] at hrb; omega
      have hA' : BlkAt w (.slice aa A.len ca) A fa := hA
      have hB' : BlkAt w (.slice ab B.len cb) B fb := hB
      have HF := Lib.hid (And.intro hA' (And.intro hB' (And.intro hE' hrx)))
      clear hE' hA hB hA' hB' hrz hrx hra
      have hOa := (Only.refl [] wr).alloc (.cells #[.int .i64 kd, .int .i64 pl, .string ⟨nm.toArray⟩, .slice aa A.len ca, .slice ab B.len cb] 85)
      have hsb := IsBlk.made wr (.cells #[.int .i64 kd, .int .i64 pl, .string ⟨nm.toArray⟩, .slice aa A.len ca, .slice ab B.len cb] 85)
      have HO2 := Lib.hid (HO.out.plus hOa)
      have Hsb := Lib.hid hsb
      clear hOa hsb
      have Hm : Hid (m + cntB b = room + (1 + cntB A + cntB B + cntB rr)) := Lib.hid hm
      have Hjl : Hid (j + (rr.len + 1) = b.len) := Lib.hid hjl
      clear hm hjl
      rw [hxa]
      by_cases h0 : m = 0
      · subst h0
        go_wp2_with fail
        refine ⟨rfl, .inr ⟨?_, rfl⟩, HO2.out⟩
        have := Hm.out; omega
      · have hmi : ¬ (m : Int) = 0 := by omega
        have hwr : IntKind.i64.wrap ((m : Int) - 1) = ((m - 1 : Nat) : Int) := by rw [Go.IntWalk.i64_in _ (by omega)]; omega
        go_wp2_with fail
        generalize hWa : wr.alloc (.cells #[.int .i64 kd, .int .i64 pl, .string ⟨nm.toArray⟩, .slice aa A.len ca, .slice ab B.len cb] 85) = wa at *
        clear hWa
        generalize hsg : wr.heap.size = sg at *
        refine (Ih.out A hcc.1 wa _ fa (m - 1) (HF.out.1.more HO2.out) hcb2.1 (by omega)).mono ?_
        rintro r W2 ⟨h2, hO2⟩
        rcases h2 with ⟨h2, rfl⟩ | ⟨h2, rfl⟩
        · have hsb2 := Hsb.out.only hO2 (by simp)
          have HO3 := Lib.hid (HO2.out.plus hO2)
          have s4 := hsb2.cell 4
          have l4 := hsb2.lt
          clear hsb2 hO2 k0 k1 k2 k3 k4
          go_wp2_with fail
          refine (Ih.out B hcc.2.1 W2 _ fb (m - 1 - cntB A) (HF.out.2.1.more HO3.out) hcb2.2.1 (by omega)).mono ?_
          rintro r W3 ⟨h3, hO3⟩
          have HO4 := Lib.hid (HO3.out.plus hO3)
          clear hO3
          rcases h3 with ⟨h3, rfl⟩ | ⟨h3, rfl⟩
          · go_wp2
            rw [← hxa]
            go_roundw
            case rel =>
              refine ⟨j + 1, m - 1 - cntB A - cntB B, rr, xr', fr', rfl, by go_num, by have := Hjl.out; omega, hcc.2.2, hcb2.2.2, HF.out.2.2.1, fun h => ⟨gx, hxa, hgx, ?_⟩, ?_, by omega, HO4.out⟩
              · intro i u hu
                have := HF.out.2.2.2 (i + 5) u hu
                rw [show j * 5 + (i + 5) = (j + 1) * 5 + i by omega] at this
                exact this
              · have := Hm.out; omega
            case measure => have h9 := Hjl.out; simp [intOf]; omega
          · refine ⟨rfl, .inr ⟨?_, rfl⟩, HO4.out⟩
            have := Hm.out; omega
        · refine ⟨rfl, .inr ⟨?_, rfl⟩, HO2.out.plus hO2⟩
          have := Hm.out; omega

theorem count_any : ∀ (N : Nat) (b : Blk), cntB b < N → ∀ (w : World) (v : Value) (fp : List Nat) (room : Nat), BlkAt w v b fp → cntB b ≤ 1000000 → room ≤ 1000 → Calls Tryz.prog 71 #[v, .int .i64 room] w (CountTo w (cntB b) room)
  | 0, b, h => absurd h (by omega)
  | N + 1, b, h => fun w v fp room hb hg hr => count_step N (fun b' hb' => count_any N b' hb') b (by omega) w v fp room hb hg hr

/-- Names that are short. -/
def ShortB (n : Nat) : Blk → Prop
  | .nil => True
  | .cons _ _ s a b r => s.length ≤ n ∧ ShortB n a ∧ ShortB n b ∧ ShortB n r

/-- Nothing; a fault, where a statement's name is none of its kind. -/
def LookTo (w : World) (x : Option Nat) (r : Ending) (w' : World) : Prop :=
  (x = none ∧ r = .returned (.tuple #[]) ∨ ∃ p, x = some p ∧ r = placedE (p, 10)) ∧ Only [] w w'

set_option maxHeartbeats 8000000 in
theorem look_step (mb mn : Nat) (f : List UInt8 → Nat) (N : Nat) (ih : ∀ b : Blk, cntB b < N → ∀ (w : World) (v : Value) (fp : List Nat), BlkAt w v b fp → cntB b ≤ 1000000 → ShortB 1000000 b → TblAt w mb mn f → Calls Tryz.prog 54 #[.map (some mb), v] w (LookTo w (lookB f b)))
    (b : Blk) (hN : cntB b ≤ N) (w : World) (v : Value) (fp : List Nat) (h : BlkAt w v b fp) (hbig : cntB b ≤ 1000000) (hsh : ShortB 1000000 b) (hT : TblAt w mb mn f) :
    Calls Tryz.prog 54 #[.map (some mb), v] w (LookTo w (lookB f b)) := by
  obtain ⟨a, c, rfl, hc⟩ := h.slice
  obtain ⟨xs, fq, hE, hra⟩ := blk7_open h
  have H := Lib.hid (And.intro hE hra)
  have Ih := Lib.hid ih
  have hlen := len_cntB b
  have HT := Lib.hid hT
  clear h hE hra ih hT
  go_enter Tryz.func54, Tryz.ntmps54
  go_wp2_with fail
  go_loopw [9] (fun iv wr => ∃ (j : Nat) (rs : Blk) (xr : List Value) (fr : List Nat), iv = .int .i64 j ∧ j + rs.len = b.len ∧ cntB rs ≤ N ∧ cntB rs ≤ 1000000 ∧ ShortB 1000000 rs ∧ EncB w rs xr fr ∧
      (0 < rs.len → ∃ g, a = some ⟨g, 0, none⟩ ∧ g < w.heap.size ∧ w.rangeAt g (j * 5) xr) ∧ lookB f b = lookB f rs ∧ Only [] w wr) (fun iv _ => b.len - (intOf iv).toNat)
  case atStart => exact ⟨0, b, xs, fq, rfl, by omega, hN, hbig, hsh, H.out.1, H.out.2, rfl, Only.refl _ _⟩
  case round =>
    obtain ⟨j, rs, xr, fr, rfl, hjl, hrc, hrb, hrs, hE, hra, hm, hO⟩ := hrel
    have HO := Lib.hid hO
    have Hm := Lib.hid hm
    clear hO hm
    cases rs with
    | nil =>
      have hji : ¬ (j : Int) < (b.len : Int) := by simp only [Blk.len] at hjl; omega
      go_wp2_with fail
      go_end0
      exact ⟨.inl ⟨Hm.out, rfl⟩, HO.out⟩
    | cons kd pl nm A B rr =>
      obtain ⟨va, vb, fa, fb, fr', xr', rfl, rfl, hA, hB, hE'⟩ := hE
      obtain ⟨aa, ca, rfl, hca⟩ := RowE.slice hA
      obtain ⟨ab, cb, rfl, hcb⟩ := RowE.slice hB
      obtain ⟨gx, hxa, hgx, hrx⟩ := hra (by simp [Blk.len])
      have hrz := rangeAt_only hrx HO.out hgx (by simp)
      have k0 : wr.cell? ⟨gx, j * 5, none⟩ = some (.int .i64 kd) := hrz 0 _ rfl
      have k1 : wr.cell? ⟨gx, j * 5 + 1, none⟩ = some (.int .i64 pl) := hrz 1 _ rfl
      have k2 : wr.cell? ⟨gx, j * 5 + 2, none⟩ = some (.string ⟨nm.toArray⟩) := hrz 2 _ rfl
      have k3 : wr.cell? ⟨gx, j * 5 + 3, none⟩ = some (.slice aa A.len ca) := hrz 3 _ rfl
      have k4 : wr.cell? ⟨gx, j * 5 + 4, none⟩ = some (.slice ab B.len cb) := hrz 4 _ rfl
      have hgxz : gx < wr.heap.size := Nat.lt_of_lt_of_le hgx HO.out.size
      have hji : (j : Int) < (b.len : Int) := by simp only [Blk.len] at hjl; omega
      have hcc : cntB A < N ∧ cntB B < N ∧ cntB rr ≤ N := by simp only [cntB] at hrc; omega
      have hcb2 : cntB A ≤ 1000000 ∧ cntB B ≤ 1000000 ∧ cntB rr ≤ 1000000 := by simp only [cntB] at hrb; omega
      obtain ⟨hs1, hs2, hs3, hs4⟩ := hrs
      have hA' : BlkAt w (.slice aa A.len ca) A fa := hA
      have hB' : BlkAt w (.slice ab B.len cb) B fb := hB
      have HF := Lib.hid (And.intro hA' (And.intro hB' (And.intro hE' hrx)))
      have Hm2 : Hid (lookB f b = if wantM kd ≠ 0 ∧ f nm ≠ wantM kd then some pl else (lookB f A).or ((lookB f B).or (lookB f rr))) := Lib.hid Hm.out
      have Hjl : Hid (j + (rr.len + 1) = b.len) := Lib.hid hjl
      clear hE' hA hB hA' hB' hrz hrx hra hjl Hm
      have hOa := (Only.refl [] wr).alloc (.cells #[.int .i64 kd, .int .i64 pl, .string ⟨nm.toArray⟩, .slice aa A.len ca, .slice ab B.len cb] 85)
      have hsb := IsBlk.made wr (.cells #[.int .i64 kd, .int .i64 pl, .string ⟨nm.toArray⟩, .slice aa A.len ca, .slice ab B.len cb] 85)
      have HO2 := Lib.hid (HO.out.plus hOa)
      have Hsb := Lib.hid hsb
      clear hOa hsb
      rw [hxa]
      go_wp2_with fail
      refine (wanted_any _ kd).mono ?_
      rintro r W1 ⟨rfl, rfl⟩
      generalize hWa : wr.alloc (.cells #[.int .i64 kd, .int .i64 pl, .string ⟨nm.toArray⟩, .slice aa A.len ca, .slice ab B.len cb] 85) = wa at *
      clear hWa
      generalize hsg : wr.heap.size = sg at *
      clear k0 k1 k2 k3 k4
      have s1 := Hsb.out.cell 1
      have s2 := Hsb.out.cell 2
      have s3 := Hsb.out.cell 3
      have l4 := Hsb.out.lt
      have hlk := (HT.out.keep HO2.out (by simp)).look nm (by unfold maxLen; omega)
      unfold encStr at hlk
      have hne : ∀ W : World, Only [] wa W → (Instr.lookup 105 (.map (some mb)) (.string ⟨nm.toArray⟩) false).run Tryz.prog W = .ok (.int .i64 (f nm)) W := fun W hW => by
        have := (HT.out.keep (HO2.out.plus hW) (by simp)).look nm (by unfold maxLen; omega)
        exact this
      by_cases hw0 : wantM kd = 0
      · have Hno : Hid (¬ (wantM kd ≠ 0 ∧ f nm ≠ wantM kd)) := Lib.hid (fun h => h.1 hw0)
        rw [hw0]
        go_wp2_with fail
        refine (Ih.out A hcc.1 wa _ fa (HF.out.1.more HO2.out) hcb2.1 hs2 (HT.out.keep HO2.out (by simp))).mono ?_
        rintro r W2 ⟨h2, hO2⟩
        rcases h2 with ⟨h2, rfl⟩ | ⟨pp, h2, rfl⟩
        · have hsb2 := Hsb.out.only hO2 (by simp)
          have HO3 := Lib.hid (HO2.out.plus hO2)
          have t4 := hsb2.cell 4
          have m4 := hsb2.lt
          have H2 := Lib.hid h2
          clear hsb2 hO2 s1 s2 s3 l4 hlk h2
          go_wp2_with fail
          refine (Ih.out B hcc.2.1 W2 _ fb (HF.out.2.1.more HO3.out) hcb2.2.1 hs3 (HT.out.keep HO3.out (by simp))).mono ?_
          rintro r W3 ⟨h3, hO3⟩
          have HO4 := Lib.hid (HO3.out.plus hO3)
          clear hO3
          rcases h3 with ⟨h3, rfl⟩ | ⟨pp, h3, rfl⟩
          · have H3 := Lib.hid h3
            clear h3
            go_wp2
            rw [← hxa]
            go_roundw
            case rel =>
              refine ⟨j + 1, rr, xr', fr', by go_num, by have := Hjl.out; omega, hcc.2.2, hcb2.2.2, hs4, HF.out.2.2.1, fun h => ⟨gx, hxa, hgx, ?_⟩, ?_, HO4.out⟩
              · intro i u hu
                have := HF.out.2.2.2 (i + 5) u hu
                rw [show j * 5 + (i + 5) = (j + 1) * 5 + i by omega] at this
                exact this
              · rw [Hm2.out, if_neg Hno.out, H2.out, H3.out]; rfl
            case measure => have h9 := Hjl.out; simp [intOf]; omega
          · refine ⟨rfl, .inr ⟨pp, ?_, rfl⟩, HO4.out⟩
            rw [Hm2.out, if_neg Hno.out, H2.out, h3]; rfl
        · refine ⟨rfl, .inr ⟨pp, ?_, rfl⟩, HO2.out.plus hO2⟩
          rw [Hm2.out, if_neg Hno.out, h2]; rfl
      · have hwi : ¬ (wantM kd : Int) = 0 := by omega
        by_cases hf : f nm = wantM kd
        · have Hno : Hid (¬ (wantM kd ≠ 0 ∧ f nm ≠ wantM kd)) := Lib.hid (fun h => h.2 hf)
          rw [hf] at hlk
          clear hne
          go_wp2_with fail
          refine (Ih.out A hcc.1 wa _ fa (HF.out.1.more HO2.out) hcb2.1 hs2 (HT.out.keep HO2.out (by simp))).mono ?_
          rintro r W2 ⟨h2, hO2⟩
          rcases h2 with ⟨h2, rfl⟩ | ⟨pp, h2, rfl⟩
          · have hsb2 := Hsb.out.only hO2 (by simp)
            have HO3 := Lib.hid (HO2.out.plus hO2)
            have t4 := hsb2.cell 4
            have m4 := hsb2.lt
            have H2 := Lib.hid h2
            clear hsb2 hO2 s1 s2 s3 l4 hlk h2
            go_wp2_with fail
            refine (Ih.out B hcc.2.1 W2 _ fb (HF.out.2.1.more HO3.out) hcb2.2.1 hs3 (HT.out.keep HO3.out (by simp))).mono ?_
            rintro r W3 ⟨h3, hO3⟩
            have HO4 := Lib.hid (HO3.out.plus hO3)
            clear hO3
            rcases h3 with ⟨h3, rfl⟩ | ⟨pp, h3, rfl⟩
            · have H3 := Lib.hid h3
              clear h3
              go_wp2
              rw [← hxa]
              go_roundw
              case rel =>
                refine ⟨j + 1, rr, xr', fr', by go_num, by have := Hjl.out; omega, hcc.2.2, hcb2.2.2, hs4, HF.out.2.2.1, fun h => ⟨gx, hxa, hgx, ?_⟩, ?_, HO4.out⟩
                · intro i u hu
                  have := HF.out.2.2.2 (i + 5) u hu
                  rw [show j * 5 + (i + 5) = (j + 1) * 5 + i by omega] at this
                  exact this
                · rw [Hm2.out, if_neg Hno.out, H2.out, H3.out]; rfl
              case measure => have h9 := Hjl.out; simp [intOf]; omega
            · refine ⟨rfl, .inr ⟨pp, ?_, rfl⟩, HO4.out⟩
              rw [Hm2.out, if_neg Hno.out, H2.out, h3]; rfl
          · refine ⟨rfl, .inr ⟨pp, ?_, rfl⟩, HO2.out.plus hO2⟩
            rw [Hm2.out, if_neg Hno.out, h2]; rfl
        · have hfi : ¬ (f nm : Int) = (wantM kd : Int) := by omega
          have Hyes := Lib.hid (And.intro hw0 hf)
          have hd : ((((wantM kd : Nat) : Int) != 0) && (((f nm : Nat) : Int) != ((wantM kd : Nat) : Int))) = true := by simp; omega
          clear hne hwi hfi
          go_wp2_with fail
          refine ⟨rfl, .inr ⟨pl, ?_, rfl⟩, HO2.out⟩
          rw [Hm2.out, if_pos Hyes.out]

theorem look_any (mb mn : Nat) (f : List UInt8 → Nat) : ∀ (N : Nat) (b : Blk), cntB b < N → ∀ (w : World) (v : Value) (fp : List Nat), BlkAt w v b fp → cntB b ≤ 1000000 → ShortB 1000000 b → TblAt w mb mn f → Calls Tryz.prog 54 #[.map (some mb), v] w (LookTo w (lookB f b))
  | 0, b, h => absurd h (by omega)
  | N + 1, b, h => fun w v fp hb hg hs hT => look_step mb mn f N (fun b' hb' => look_any mb mn f N b' hb') b (by omega) w v fp hb hg hs hT

end Go.Proofs.YtildkedplmjdaaaGreatDoor
namespace Go.Proofs.YtildkedplmjdaaaGreatDoor
set_option maxRecDepth 100000
set_option linter.unusedVariables false
open Go.RowKit Go.Sort

/-- Functions, opened. -/
theorem funcs_open {w : World} {v : Value} {l : List FuncM} (h : FuncsAt w v l) : ∃ a c xs fp, v = .slice a l.length c ∧ EncF w l xs fp ∧ (0 < l.length → ∃ g, a = some ⟨g, 0, none⟩ ∧ g < w.heap.size ∧ w.rangeAt g (0 * 3) xs) := by
  obtain ⟨a, c, rfl, hc, h⟩ := h
  by_cases h0 : 0 < l.length
  · obtain ⟨g, xs, fp, ha, hg, hr, he⟩ := h h0
    exact ⟨a, c, xs, fp, rfl, he, fun _ => ⟨g, ha, hg, by rw [Nat.zero_mul]; exact hr⟩⟩
  · have : l = [] := by cases l with
      | nil => rfl
      | cons _ _ => simp at h0
    subst this
    exact ⟨a, c, [], [], rfl, ⟨rfl, rfl⟩, fun h => absurd h h0⟩
theorem len_cntF (n : Nat) : ∀ l : List FuncM, cntF l ≤ n → ∀ f ∈ l, cntB f.body ≤ n
  | [], _, f, hf => by cases hf
  | g :: r, h, f, hf => by
    simp only [cntF] at h
    rcases List.mem_cons.1 hf with rfl | hf
    · omega
    · exact len_cntF n r (by omega) f hf

def BoundTo (w : World) (P : ProgM) (r : Ending) (w' : World) : Prop :=
  (longM P = false ∧ r = .returned (.tuple #[]) ∨ longM P = true ∧ r = errnoE 2) ∧ Only [] w w'

set_option maxHeartbeats 8000000 in
theorem bound_any (w : World) (vv vl vf : Value) (P : ProgM) (h : ProgAt w vv vl vf P) (hbig : cntF P.funcs ≤ 1000000) :
    Calls Tryz.prog 52 #[.agg #[vv, vl, vf]] w (BoundTo w P) := by
  obtain ⟨⟨av, cv, rfl, hcv, hv⟩, ⟨al, cl, rfl, hcl, hl⟩, hf⟩ := h
  obtain ⟨af, cf, xs, fp, rfl, hE, hra⟩ := funcs_open hf
  have hOb := (Only.refl [] w).alloc (.cells #[.slice av P.vars.length cv, .slice al P.locks.length cl, .slice af P.funcs.length cf] 30)
  have hb := IsBlk.made w (.cells #[.slice av P.vars.length cv, .slice al P.locks.length cl, .slice af P.funcs.length cf] 30)
  have H := Lib.hid (And.intro hE hra)
  have Hb := Lib.hid hb
  have HO := Lib.hid hOb
  clear hv hl hf hE hra hOb hb
  go_enter Tryz.func52, Tryz.ntmps52
  go_upto_region 1 with fail
  generalize hW1 : w.alloc (.cells #[.slice av P.vars.length cv, .slice al P.locks.length cl, .slice af P.funcs.length cf] 30) = w1 at *
  clear hW1
  have z0 := Hb.out.cell 0
  have z1 := Hb.out.cell 1
  have z2 := Hb.out.cell 2
  have zl := Hb.out.lt
  by_cases hlong : 20 < P.vars.length ∨ 20 < P.locks.length ∨ 20 < P.funcs.length
  · have hL : longM P = true := by unfold longM; simp; omega
    have HL := Lib.hid (And.intro hL hlong)
    clear hlong hL
    go_wp2_with fail
    all_goals (have h1 := HL.out.2; first | exact ⟨rfl, .inr ⟨HL.out.1, rfl⟩, HO.out⟩ | (exfalso; omega))
  · have hL : longM P = decide (200 < cntF P.funcs) := by unfold longM; simp; omega
    have HL := Lib.hid hL
    have hl1 : ¬ 20 < P.vars.length := by omega
    have hl2 : ¬ 20 < P.locks.length := by omega
    have hl3 : ¬ 20 < P.funcs.length := by omega
    clear hlong hL
    go_wp2_with fail
    all_goals (
      go_loopw [2, 20] (fun mv iv wr => ∃ (j m : Nat) (rs : List FuncM) (xr : List Value) (fr : List Nat), mv = .int .i64 m ∧ iv = .int .i64 j ∧ j + rs.length = P.funcs.length ∧ cntF rs ≤ 1000000 ∧ EncF w rs xr fr ∧
          (0 < rs.length → ∃ g, af = some ⟨g, 0, none⟩ ∧ g < w.heap.size ∧ w.rangeAt g (j * 3) xr) ∧ m + cntF P.funcs = 200 + cntF rs ∧ m ≤ 200 ∧ Only [] w wr) (fun _ iv _ => P.funcs.length - (intOf iv).toNat)
      case atStart => exact ⟨0, 200, P.funcs, xs, fp, rfl, rfl, by omega, hbig, H.out.1, H.out.2, rfl, by omega, HO.out⟩
      case round =>
        obtain ⟨j, m, rs, xr, fr, rfl, rfl, hjl, hrb, hE, hra, hm, hm2, hO⟩ := hrel
        have HO2 := Lib.hid hO
        have Hm := Lib.hid hm
        clear hO hm
        cases rs with
        | nil =>
          have hji : ¬ (j : Int) < (P.funcs.length : Int) := by simp only [List.length_nil] at hjl; omega
          go_wp2_with fail
          go_end0
          have h9 : m + cntF P.funcs = 200 + 0 := Hm.out
          exact ⟨.inl ⟨by rw [HL.out]; simp; omega, rfl⟩, HO2.out⟩
        | cons d rr =>
          obtain ⟨va, fa, fr', xr', rfl, rfl, hA, -, hE'⟩ := hE
          have hA' := hA
          obtain ⟨aa, ca, rfl, hca⟩ := RowE.slice hA
          obtain ⟨gx, hxa, hgx, hrx⟩ := hra (by simp)
          have hrz := rangeAt_only hrx HO2.out hgx (by simp)
          have k0 : wr.cell? ⟨gx, j * 3, none⟩ = some (.string ⟨d.name.toArray⟩) := hrz 0 _ rfl
          have k1 : wr.cell? ⟨gx, j * 3 + 1, none⟩ = some (.int .i64 d.at_) := hrz 1 _ rfl
          have k2 : wr.cell? ⟨gx, j * 3 + 2, none⟩ = some (.slice aa d.body.len ca) := hrz 2 _ rfl
          have hgxz : gx < wr.heap.size := Nat.lt_of_lt_of_le hgx HO2.out.size
          have hji : (j : Int) < (P.funcs.length : Int) := by simp only [List.length_cons] at hjl; omega
          have hcb2 : cntB d.body ≤ 1000000 ∧ cntF rr ≤ 1000000 := by simp only [cntF] at hrb; omega
          have Hjl : Hid (j + (rr.length + 1) = P.funcs.length) := Lib.hid hjl
          have HF := Lib.hid (And.intro hA' (And.intro hE' hrx))
          have Hm2 : Hid (m + cntF P.funcs = 200 + (cntB d.body + cntF rr)) := Lib.hid Hm.out
          clear hE' hA hA' hrz hrx hra hjl Hm
          have hOa := (Only.refl [] wr).alloc (.cells #[.string ⟨d.name.toArray⟩, .int .i64 d.at_, .slice aa d.body.len ca] 51)
          have HO3 := Lib.hid (HO2.out.plus hOa)
          clear hOa
          rw [hxa]
          go_wp2_with fail
          generalize hWa : wr.alloc (.cells #[.string ⟨d.name.toArray⟩, .int .i64 d.at_, .slice aa d.body.len ca] 51) = wa at *
          clear hWa
          refine (count_any _ d.body (Nat.lt_succ_self _) wa _ fa m (HF.out.1.more HO3.out) hcb2.1 (by omega)).mono ?_
          rintro r W2 ⟨h2, hO2⟩
          have HO4 := Lib.hid (HO3.out.plus hO2)
          clear hO2
          rcases h2 with ⟨h2, rfl⟩ | ⟨h2, rfl⟩
          · have H2 := Lib.hid h2
            clear h2
            go_wp2
            rw [← hxa]
            go_roundw
            case rel =>
              refine ⟨j + 1, m - cntB d.body, rr, xr', fr', rfl, by go_num, by have := Hjl.out; omega, hcb2.2, HF.out.2.1, fun h => ⟨gx, hxa, hgx, ?_⟩, ?_, by omega, HO4.out⟩
              · intro i u hu
                have := HF.out.2.2 (i + 3) u hu
                rw [show j * 3 + (i + 3) = (j + 1) * 3 + i by omega] at this
                exact this
              · have h8 := Hm2.out; have h7 := H2.out; omega
            case measure => have h9 := Hjl.out; simp [intOf]; omega
          · refine ⟨rfl, .inr ⟨?_, rfl⟩, HO4.out⟩
            rw [HL.out]
            have h8 := Hm2.out
            simp
            omega)

end Go.Proofs.YtildkedplmjdaaaGreatDoor
