/-
  The laws' helper Do: one raw call, done to both disks: the same answers, and both go on alike.
-/
import Derived.Test.YtlnmpbfalflbgaaPairA
import Derived.Test.YtlnmpbfalflbgaaCallArg
import Derived.Deep.DeepCutAuto
import Derived.IntWalk
namespace Go.Proofs.Ytlnmpbfalflbgaa
open Go.RowKit

/-- Both disks, alike; numbers up to K. -/
structure PairAt (w : World) (p bl bm B : Nat) (R : RefP) (D : DS) (K : Int) : Prop where
  disk : DiskAt w p bl bm D
  ref : RefAt w B R (refOf D)
  calm : D.calm K
  pB : p < B
  lB : bl < B
  mB : bm < B

theorem own_ge {w : World} {B : Nat} {R : RefP} {E : RS} (h : RefAt w B R E) : ∀ k ∈ R.own, B ≤ k := by
  intro k hk; simp [RefP.own] at hk
  rcases hk with rfl | rfl | rfl | rfl
  · exact h.gq
  · exact h.gN
  · exact h.gL
  · exact h.gB
theorem own_lt {w : World} {B : Nat} {R : RefP} {E : RS} (h : RefAt w B R E) : ∀ k ∈ R.own, k < w.heap.size := by
  intro k hk; simp [RefP.own] at hk
  rcases hk with rfl | rfl | rfl | rfl
  · exact h.lq
  · exact h.lN
  · exact h.lL
  · exact h.lB
theorem PairAt.more {w w' : World} {p bl bm B : Nat} {R : RefP} {D : DS} {K : Int} (h : PairAt w p bl bm B R D K) (ho : Only [] w w') : PairAt w' p bl bm B R D K :=
  ⟨h.disk.more ho, h.ref.more ho, h.calm, h.pB, h.lB, h.mB⟩

def BothOk (w : World) (p bl bm B : Nat) (R : RefP) (n : Nat) (K : Int) (v : Value) (e : Ending) (w' : World) : Prop :=
  e = .returned v ∧ (∃ D, PairAt w' p bl bm B R D K ∧ D.n = n) ∧ Only ([p, bl, bm] ++ R.own) w w'

theorem writeR_n (D : DS) (x : Int) (l : List UInt8) : (D.writeR x l).1.n = D.n := by
  unfold DS.writeR
  split
  · rfl
  split
  · rfl
  split <;> rfl
theorem flushR_n (D : DS) : D.flushR.1.n = D.n := by
  unfold DS.flushR
  split
  · rfl
  split <;> rfl
theorem burnt_ok {f : Int} (h : -1 ≤ f) (_h0 : f ≠ 0) : -1 ≤ burnt f ∧ burnt f ≤ f := by unfold burnt; split <;> omega
theorem writeR_calm {D : DS} {K : Int} (h : D.calm K) (x : Int) (l : List UInt8) : (D.writeR x l).1.calm (K + 1) := by
  obtain ⟨h1, h2, h3, h4⟩ := h
  unfold DS.writeR
  split
  · exact ⟨h1, h2, h3, by show D.ops ≤ K + 1; omega⟩
  split
  · exact ⟨h1, h2, h3, by show D.ops ≤ K + 1; omega⟩
  split
  · exact ⟨by show (-1 : Int) ≤ 0; omega, by show (0 : Int) < 1000; omega, h3, by show D.ops ≤ K + 1; omega⟩
  · rename_i hf
    have := burnt_ok h1 hf
    exact ⟨this.1, by show burnt D.fuse < 1000; omega, by show 0 ≤ D.ops + 1; omega, by show D.ops + 1 ≤ K + 1; omega⟩
theorem flushR_calm {D : DS} {K : Int} (h : D.calm K) : D.flushR.1.calm (K + 1) := by
  obtain ⟨h1, h2, h3, h4⟩ := h
  unfold DS.flushR
  split
  · exact ⟨h1, h2, h3, by show D.ops ≤ K + 1; omega⟩
  split
  · exact ⟨by show (-1 : Int) ≤ 0; omega, by show (0 : Int) < 1000; omega, h3, by show D.ops ≤ K + 1; omega⟩
  · rename_i hf
    have := burnt_ok h1 hf
    exact ⟨this.1, by show burnt D.fuse < 1000; omega, by show 0 ≤ D.ops + 1; omega, by show D.ops + 1 ≤ K + 1; omega⟩
theorem fuseR_calm {D : DS} {K : Int} (h : D.calm K) (x : Int) (hx : x < 1000) : (D.fuseR x).calm (K + 1) := by
  obtain ⟨h1, h2, h3, h4⟩ := h
  unfold DS.fuseR
  split
  · exact ⟨by show (-1 : Int) ≤ -1; omega, by show (-1 : Int) < 1000; omega, h3, by show D.ops ≤ K + 1; omega⟩
  · exact ⟨by show -1 ≤ x; omega, hx, h3, by show D.ops ≤ K + 1; omega⟩
theorem crashed_calm {D : DS} {K : Int} (h : D.calm K) (l : List UInt8) : (D.crashed l).calm (K + 1) := by
  obtain ⟨h1, h2, h3, h4⟩ := h
  exact ⟨by show (-1 : Int) ≤ -1; omega, by show (-1 : Int) < 1000; omega, h3, by show D.ops ≤ K + 1; omega⟩
theorem calm_succ {D : DS} {K : Int} (h : D.calm K) : D.calm (K + 1) := ⟨h.1, h.2.1, h.2.2.1, by have := h.2.2.2; omega⟩

/-- Behind the first half of a call: the disk has gone on, the other one not yet. -/
structure HalfAt (w : World) (p bl bm B : Nat) (R : RefP) (D D' : DS) : Prop where
  disk : DiskAt w p bl bm D'
  ref : RefAt w B R (refOf D)

theorem PairAt.half {w w' : World} {p bl bm B : Nat} {R : RefP} {D D' : DS} {K : Int} (h : PairAt w p bl bm B R D K) (hD : DiskAt w' p bl bm D') (hO : Only [p, bl, bm] w w') : HalfAt w' p bl bm B R D D' :=
  ⟨hD, h.ref.keep hO (by have := h.pB; have := h.lB; have := h.mB; simp; omega)⟩
theorem HalfAt.whole {w w' : World} {p bl bm B : Nat} {R : RefP} {D D' : DS} {K : Int} (h : HalfAt w p bl bm B R D D') (hR : RefAt w' B R (refOf D')) (hO : Only R.own w w') (hc : D'.calm K) (h1 : p < B) (h2 : bl < B) (h3 : bm < B) : PairAt w' p bl bm B R D' K :=
  ⟨h.disk.keep hO (fun hm => by have := own_ge h.ref p hm; omega) (fun hm => by have := own_ge h.ref bl hm; omega) (fun hm => by have := own_ge h.ref bm hm; omega), hR, hc, h1, h2, h3⟩
theorem HalfAt.more {w w' : World} {p bl bm B : Nat} {R : RefP} {D D' : DS} (h : HalfAt w p bl bm B R D D') (ho : Only [] w w') : HalfAt w' p bl bm B R D D' := ⟨h.disk.more ho, h.ref.more ho⟩

theorem psize (w : World) (B : Nat) (R : RefP) (D : DS) (h : RefAt w B R (refOf D)) :
    Calls Try.prog 28 #[.pointer (some ⟨R.q, 0, none⟩)] w fun e w' => e = .returned (.int .i64 D.n) ∧ w = w' := rsize_any w B R (refOf D) h
theorem pops (w : World) (B : Nat) (R : RefP) (D : DS) (h : RefAt w B R (refOf D)) :
    Calls Try.prog 33 #[.pointer (some ⟨R.q, 0, none⟩)] w fun e w' => e = .returned (.int .i64 D.ops) ∧ w = w' := rops_any w B R (refOf D) h
theorem empty_str (w : World) : (convert 34 9 (.slice none 0 0)).run Try.prog w = .ok (.string ByteArray.empty) w :=
  run_convert_bytes_nil (P := Try.prog) w 34 5 Try.underlying34 Try.underlying5 0 0 9 Try.underlying9

set_option maxRecDepth 100000 in
set_option maxHeartbeats 8000000 in
theorem do_any (w : World) (p bl bm B A : Nat) (R : RefP) (D : DS) (K : Int) (c : CallR) (h : PairAt w p bl bm B R D K) (hK : K < 900000) (hs : Src w c.da c.dlen c.bytes) (hA : 0 < c.dlen → ∀ b o, c.da = some ⟨b, o, none⟩ → b < A) (hAp : A ≤ p) (hAl : A ≤ bl) (hAm : A ≤ bm) (hAB : A ≤ B) :
    Calls Try.prog 17 #[.pointer (some ⟨p, 0, none⟩), .pointer (some ⟨R.q, 0, none⟩), .agg #[.int .i64 c.kind, .int .i64 c.at_, .int .i64 c.n, .slice c.da c.dlen c.dcap]] w
      (BothOk w p bl bm B R D.n (K + 1) (.bool true)) := by
  obtain ⟨kind, at0, n0, da, dlen, dcap, bytes⟩ := c
  have hsm := h.disk.small
  have hk0 := Int.emod_nonneg kind (show (9 : Int) ≠ 0 by omega)
  have hk1 := Int.emod_lt_of_pos kind (show (0 : Int) < 9 by omega)
  have H := Lib.hid h
  have Hs := Lib.hid hs
  have HA := Lib.hid hA
  clear h hs hA
  simp only at Hs HA ⊢
  go_enter Try.func17, Try.ntmps17
  go_wp2_with fail
  have hbx := IsBlk.made w (.cells #[.int .i64 kind, .int .i64 at0, .int .i64 n0, .slice da dlen dcap] 36)
  have hO1 : Only [] w (w.alloc (.cells #[.int .i64 kind, .int .i64 at0, .int .i64 n0, .slice da dlen dcap] 36)) := (Only.refl _ _).alloc _
  generalize w.alloc (.cells #[.int .i64 kind, .int .i64 at0, .int .i64 n0, .slice da dlen dcap] 36) = w1 at *
  generalize hgx : w.heap.size = gx at *
  have Hgx := Lib.hid hgx
  have b0 : w1.cell? ⟨gx, 0, none⟩ = some (.int .i64 kind) := hbx.cell 0
  have b1 : w1.cell? ⟨gx, 1, none⟩ = some (.int .i64 at0) := hbx.cell 1
  have b2 : w1.cell? ⟨gx, 2, none⟩ = some (.int .i64 n0) := hbx.cell 2
  have b3 : w1.cell? ⟨gx, 3, none⟩ = some (.slice da dlen dcap) := hbx.cell 3
  have hP1 := H.out.more hO1
  have HP1 := Lib.hid hP1
  have Hbx := Lib.hid hbx
  clear hgx hbx hP1
  have hm0 := Int.emod_nonneg at0 (show ((D.n : Int) + 2) ≠ 0 by omega)
  have hm1 := Int.emod_lt_of_pos at0 (show (0 : Int) < (D.n : Int) + 2 by omega)
  have e2 : IntKind.i64.wrap ((D.n : Int) + 2) = (D.n : Int) + 2 := IntWalk.i64_in _ (by omega)
  have e3 : IntKind.i64.wrap (at0 % ((D.n : Int) + 2) - 1) = at0 % ((D.n : Int) + 2) - 1 := IntWalk.i64_in _ (by omega)
  go_region_held3 (fun W => W.cell? ⟨gx, 1, none⟩ = some (.int .i64 at0)) (first | assumption | go_keep)
    (first
      | (go_at_call 28; refine (psize _ B R D (HP1.out.ref.more (by repeat (first | exact Only.refl _ _ | refine Only.drew ?_)))).mono ?_; rintro e w' ⟨rfl, rfl⟩)
      | (go_at_call 14; refine (within_any _ _ _ ?_ ?_).mono ?_; omega; omega; rintro e w' ⟨rfl, rfl⟩))
  have hO2 : Only [] w w1.drew := hO1.drew
  have hP2 := HP1.out.more (Only.refl [] w1).drew
  have d0 : w1.drew.cell? ⟨gx, 0, none⟩ = some (.int .i64 kind) := b0
  have d1 : w1.drew.cell? ⟨gx, 1, none⟩ = some (.int .i64 at0) := b1
  have d2 : w1.drew.cell? ⟨gx, 2, none⟩ = some (.int .i64 n0) := b2
  have d3 : w1.drew.cell? ⟨gx, 3, none⟩ = some (.slice da dlen dcap) := b3
  have hgl : gx < w1.drew.heap.size := Hbx.out.lt
  have HP2 := Lib.hid hP2
  clear e2 e3 hm0 hm1 b0 b1 b2 b3 hP2 HP1 Hbx hO1
  generalize at0 % ((D.n : Int) + 2) - 1 = nx at *
  rename_i hheld
  clear hheld
  generalize w1.drew = w2 at *
  go_upto_if 24 with (go_at_call 14; refine (within_any _ _ _ ?_ ?_).mono ?_; omega; omega; rintro e w' ⟨rfl, rfl⟩)
  go_cut [7] (fun s7 wx => ∃ n : Int, s7 = .int .i64 n ∧ wx = w2)
  case first =>
    by_cases h3 : (at0 % 3 == 0) = true
    · go_wp2_with (go_at_call 14; refine (within_any _ _ _ ?_ ?_).mono ?_; omega; omega; rintro e w' ⟨rfl, rfl⟩)
      go_meet
      exact ⟨_, rfl, rfl⟩
    · have h3' : (at0 % 3 == 0) = false := by simpa using h3
      clear h3
      go_wp2_with fail
      go_meet
      exact ⟨_, rfl, rfl⟩
  case rest =>
    obtain ⟨nx, rfl, hwc⟩ := hcut
    subst hwc
    have hKd := hk0
    go_wp2_with fail
    refine (within_any _ kind 9 (by omega) (by omega)).mono ?_
    rintro e w' ⟨rfl, rfl⟩
    generalize kind % 9 = kd at *
    obtain rfl | rfl | rfl | rfl | rfl | rfl | rfl | rfl | rfl : kd = 0 ∨ kd = 1 ∨ kd = 2 ∨ kd = 3 ∨ kd = 4 ∨ kd = 5 ∨ kd = 6 ∨ kd = 7 ∨ kd = 8 := by omega
    · skip
      go_wp2_with fail
      refine (sector_any _ n0 da dlen dcap bytes (Hs.out.more hO2)).mono ?_
      rintro e w3 ⟨gs, rfl, hb3, hg3, hO3⟩
      have hOa := hO2.then hO3 [] (by simp) (by simp)
      have hPa := HP2.out.more hO3
      have HPa := Lib.hid hPa
      have d2a := (hO3.cell (p := ⟨gx, 2, none⟩) hgl (by simp)).trans d2
      have d3a := (hO3.cell (p := ⟨gx, 3, none⟩) hgl (by simp)).trans d3
      have hplt := HP2.out.disk.plt
      have hllt := HP2.out.disk.blt
      have hmlt := HP2.out.disk.mlt
      have Hown := Lib.hid (own_lt HP2.out.ref)
      have hss : Src w3 (some ⟨gs, 0, none⟩) 64 (secB n0 bytes) := ⟨length_secB n0 bytes, fun _ => ⟨gs, 0, rfl, hb3.lt, blk_range hb3⟩⟩
      have Hss := Lib.hid hss
      generalize secB n0 bytes = sb at *
      clear hss hb3 hO3 hPa d2 d3
      by_cases h20 : (n0 % 20 == 0) = true
      · go_wp2_with fail
        refine (within_any _ n0 20 (by omega) (by omega)).mono ?_
        rintro e w' ⟨rfl, rfl⟩
        go_wp2_with fail
        have hsa := Hs.out.more hOa
        have HSa := Lib.hid hsa
        have HAa := Lib.hid (show 0 < dlen → ∀ b o, da = some ⟨b, o, none⟩ → b ≠ p ∧ b ≠ bl ∧ b ≠ bm from fun hp b o e => by have := HA.out hp b o e; omega)
        have HBa := Lib.hid (show 0 < dlen → ∀ b o, da = some ⟨b, o, none⟩ → ∀ k ∈ R.own, b ≠ k from fun hp b o e k hk => by have := HA.out hp b o e; have := own_ge HPa.out.ref k hk; omega)
        clear hsa
        refine (write_any _ p bl bm D nx _ _ _ bytes K HPa.out.disk HPa.out.calm (by omega) HSa.out (fun hp b o e => by have := HAa.out hp b o e; omega)).mono ?_
        rintro e w4 ⟨rfl, hD4, hO4⟩
        have hH4 := HPa.out.half hD4 hO4
        have HH4 := Lib.hid hH4
        clear hD4 hH4
        have hs4 := HSa.out.keep hO4 (fun hp b o e => by have := HAa.out hp b o e; simp; omega)
        have HS4 := Lib.hid hs4
        clear hs4
        go_wp2_with fail
        refine (rwrite_any _ B R D nx _ _ _ bytes K HH4.out.ref HPa.out.calm (by omega) HS4.out (fun hp b o e hm => by have := HAa.out hp b o e; have := HBa.out hp b o e b hm; omega)).mono ?_
        rintro e w5 ⟨rfl, hR5, hO5⟩
        have hPz := HH4.out.whole hR5 hO5 (writeR_calm HPa.out.calm nx bytes) HPa.out.pB HPa.out.lB HPa.out.mB
        have hOz : Only ([p, bl, bm] ++ R.own) w w5 := ((hOa.trans hO4).trans hO5).into (fun k hk => .inl (by simpa using hk))
        have Hnz := Lib.hid (writeR_n D nx bytes)
        have HOz := Lib.hid hOz
        have HPz := Lib.hid hPz
        clear hR5 hPz hOz hO4 hO5 HH4
        generalize (D.writeR nx bytes).1 = Dz at *
        generalize (D.writeR nx bytes).2 = code at *
        go_wp2_with fail
        refine (ops_any _ p bl _ bm _ _ _ HPz.out.disk.blk).mono ?_
        rintro e w' ⟨rfl, rfl⟩
        go_wp2_with fail
        refine (pops _ B R Dz HPz.out.ref).mono ?_
        rintro e w' ⟨rfl, rfl⟩
        go_wp2_with fail
        refine (size_any _ p bl _ bm _ _ _ HPz.out.disk.blk).mono ?_
        rintro e w' ⟨rfl, rfl⟩
        go_wp2_with fail
        refine (psize _ B R Dz HPz.out.ref).mono ?_
        rintro e w' ⟨rfl, rfl⟩
        go_wp2
        go_ret
        exact ⟨rfl, ⟨Dz, HPz.out, by first | exact Hnz.out | rfl⟩, HOz.out⟩
      · have h20' : (n0 % 20 == 0) = false := by simpa using h20
        clear h20
        go_wp2_with fail
        refine (within_any _ n0 20 (by omega) (by omega)).mono ?_
        rintro e w' ⟨rfl, rfl⟩
        go_wp2_with fail
        have HSa := Hss
        have HAa := Lib.hid (show 0 < 64 → ∀ b o, some (⟨gs, 0, none⟩ : Addr) = some ⟨b, o, none⟩ → b ≠ p ∧ b ≠ bl ∧ b ≠ bm from fun _ b o e => by injection e with e; injection e with e1; omega)
        have HBa := Lib.hid (show 0 < 64 → ∀ b o, some (⟨gs, 0, none⟩ : Addr) = some ⟨b, o, none⟩ → ∀ k ∈ R.own, b ≠ k from fun _ b o e k hk => by injection e with e; injection e with e1; have := Hown.out k hk; omega)
        refine (write_any _ p bl bm D nx _ _ _ sb K HPa.out.disk HPa.out.calm (by omega) HSa.out (fun hp b o e => by have := HAa.out hp b o e; omega)).mono ?_
        rintro e w4 ⟨rfl, hD4, hO4⟩
        have hH4 := HPa.out.half hD4 hO4
        have HH4 := Lib.hid hH4
        clear hD4 hH4
        have hs4 := HSa.out.keep hO4 (fun hp b o e => by have := HAa.out hp b o e; simp; omega)
        have HS4 := Lib.hid hs4
        clear hs4
        go_wp2_with fail
        refine (rwrite_any _ B R D nx _ _ _ sb K HH4.out.ref HPa.out.calm (by omega) HS4.out (fun hp b o e hm => by have := HAa.out hp b o e; have := HBa.out hp b o e b hm; omega)).mono ?_
        rintro e w5 ⟨rfl, hR5, hO5⟩
        have hPz := HH4.out.whole hR5 hO5 (writeR_calm HPa.out.calm nx sb) HPa.out.pB HPa.out.lB HPa.out.mB
        have hOz : Only ([p, bl, bm] ++ R.own) w w5 := ((hOa.trans hO4).trans hO5).into (fun k hk => .inl (by simpa using hk))
        have Hnz := Lib.hid (writeR_n D nx sb)
        have HOz := Lib.hid hOz
        have HPz := Lib.hid hPz
        clear hR5 hPz hOz hO4 hO5 HH4
        generalize (D.writeR nx sb).1 = Dz at *
        generalize (D.writeR nx sb).2 = code at *
        go_wp2_with fail
        refine (ops_any _ p bl _ bm _ _ _ HPz.out.disk.blk).mono ?_
        rintro e w' ⟨rfl, rfl⟩
        go_wp2_with fail
        refine (pops _ B R Dz HPz.out.ref).mono ?_
        rintro e w' ⟨rfl, rfl⟩
        go_wp2_with fail
        refine (size_any _ p bl _ bm _ _ _ HPz.out.disk.blk).mono ?_
        rintro e w' ⟨rfl, rfl⟩
        go_wp2_with fail
        refine (psize _ B R Dz HPz.out.ref).mono ?_
        rintro e w' ⟨rfl, rfl⟩
        go_wp2
        go_ret
        exact ⟨rfl, ⟨Dz, HPz.out, by first | exact Hnz.out | rfl⟩, HOz.out⟩
    · skip
      go_wp2_with fail
      refine (sector_any _ n0 da dlen dcap bytes (Hs.out.more hO2)).mono ?_
      rintro e w3 ⟨gs, rfl, hb3, hg3, hO3⟩
      have hOa := hO2.then hO3 [] (by simp) (by simp)
      have hPa := HP2.out.more hO3
      have HPa := Lib.hid hPa
      have d2a := (hO3.cell (p := ⟨gx, 2, none⟩) hgl (by simp)).trans d2
      have d3a := (hO3.cell (p := ⟨gx, 3, none⟩) hgl (by simp)).trans d3
      have hplt := HP2.out.disk.plt
      have hllt := HP2.out.disk.blt
      have hmlt := HP2.out.disk.mlt
      have Hown := Lib.hid (own_lt HP2.out.ref)
      have hss : Src w3 (some ⟨gs, 0, none⟩) 64 (secB n0 bytes) := ⟨length_secB n0 bytes, fun _ => ⟨gs, 0, rfl, hb3.lt, blk_range hb3⟩⟩
      have Hss := Lib.hid hss
      generalize secB n0 bytes = sb at *
      clear hss hb3 hO3 hPa d2 d3
      by_cases h20 : (n0 % 20 == 0) = true
      · go_wp2_with fail
        refine (within_any _ n0 20 (by omega) (by omega)).mono ?_
        rintro e w' ⟨rfl, rfl⟩
        go_wp2_with fail
        have hsa := Hs.out.more hOa
        have HSa := Lib.hid hsa
        have HAa := Lib.hid (show 0 < dlen → ∀ b o, da = some ⟨b, o, none⟩ → b ≠ p ∧ b ≠ bl ∧ b ≠ bm from fun hp b o e => by have := HA.out hp b o e; omega)
        have HBa := Lib.hid (show 0 < dlen → ∀ b o, da = some ⟨b, o, none⟩ → ∀ k ∈ R.own, b ≠ k from fun hp b o e k hk => by have := HA.out hp b o e; have := own_ge HPa.out.ref k hk; omega)
        clear hsa
        refine (write_any _ p bl bm D nx _ _ _ bytes K HPa.out.disk HPa.out.calm (by omega) HSa.out (fun hp b o e => by have := HAa.out hp b o e; omega)).mono ?_
        rintro e w4 ⟨rfl, hD4, hO4⟩
        have hH4 := HPa.out.half hD4 hO4
        have HH4 := Lib.hid hH4
        clear hD4 hH4
        have hs4 := HSa.out.keep hO4 (fun hp b o e => by have := HAa.out hp b o e; simp; omega)
        have HS4 := Lib.hid hs4
        clear hs4
        go_wp2_with fail
        refine (rwrite_any _ B R D nx _ _ _ bytes K HH4.out.ref HPa.out.calm (by omega) HS4.out (fun hp b o e hm => by have := HAa.out hp b o e; have := HBa.out hp b o e b hm; omega)).mono ?_
        rintro e w5 ⟨rfl, hR5, hO5⟩
        have hPz := HH4.out.whole hR5 hO5 (writeR_calm HPa.out.calm nx bytes) HPa.out.pB HPa.out.lB HPa.out.mB
        have hOz : Only ([p, bl, bm] ++ R.own) w w5 := ((hOa.trans hO4).trans hO5).into (fun k hk => .inl (by simpa using hk))
        have Hnz := Lib.hid (writeR_n D nx bytes)
        have HOz := Lib.hid hOz
        have HPz := Lib.hid hPz
        clear hR5 hPz hOz hO4 hO5 HH4
        generalize (D.writeR nx bytes).1 = Dz at *
        generalize (D.writeR nx bytes).2 = code at *
        go_wp2_with fail
        refine (ops_any _ p bl _ bm _ _ _ HPz.out.disk.blk).mono ?_
        rintro e w' ⟨rfl, rfl⟩
        go_wp2_with fail
        refine (pops _ B R Dz HPz.out.ref).mono ?_
        rintro e w' ⟨rfl, rfl⟩
        go_wp2_with fail
        refine (size_any _ p bl _ bm _ _ _ HPz.out.disk.blk).mono ?_
        rintro e w' ⟨rfl, rfl⟩
        go_wp2_with fail
        refine (psize _ B R Dz HPz.out.ref).mono ?_
        rintro e w' ⟨rfl, rfl⟩
        go_wp2
        go_ret
        exact ⟨rfl, ⟨Dz, HPz.out, by first | exact Hnz.out | rfl⟩, HOz.out⟩
      · have h20' : (n0 % 20 == 0) = false := by simpa using h20
        clear h20
        go_wp2_with fail
        refine (within_any _ n0 20 (by omega) (by omega)).mono ?_
        rintro e w' ⟨rfl, rfl⟩
        go_wp2_with fail
        have HSa := Hss
        have HAa := Lib.hid (show 0 < 64 → ∀ b o, some (⟨gs, 0, none⟩ : Addr) = some ⟨b, o, none⟩ → b ≠ p ∧ b ≠ bl ∧ b ≠ bm from fun _ b o e => by injection e with e; injection e with e1; omega)
        have HBa := Lib.hid (show 0 < 64 → ∀ b o, some (⟨gs, 0, none⟩ : Addr) = some ⟨b, o, none⟩ → ∀ k ∈ R.own, b ≠ k from fun _ b o e k hk => by injection e with e; injection e with e1; have := Hown.out k hk; omega)
        refine (write_any _ p bl bm D nx _ _ _ sb K HPa.out.disk HPa.out.calm (by omega) HSa.out (fun hp b o e => by have := HAa.out hp b o e; omega)).mono ?_
        rintro e w4 ⟨rfl, hD4, hO4⟩
        have hH4 := HPa.out.half hD4 hO4
        have HH4 := Lib.hid hH4
        clear hD4 hH4
        have hs4 := HSa.out.keep hO4 (fun hp b o e => by have := HAa.out hp b o e; simp; omega)
        have HS4 := Lib.hid hs4
        clear hs4
        go_wp2_with fail
        refine (rwrite_any _ B R D nx _ _ _ sb K HH4.out.ref HPa.out.calm (by omega) HS4.out (fun hp b o e hm => by have := HAa.out hp b o e; have := HBa.out hp b o e b hm; omega)).mono ?_
        rintro e w5 ⟨rfl, hR5, hO5⟩
        have hPz := HH4.out.whole hR5 hO5 (writeR_calm HPa.out.calm nx sb) HPa.out.pB HPa.out.lB HPa.out.mB
        have hOz : Only ([p, bl, bm] ++ R.own) w w5 := ((hOa.trans hO4).trans hO5).into (fun k hk => .inl (by simpa using hk))
        have Hnz := Lib.hid (writeR_n D nx sb)
        have HOz := Lib.hid hOz
        have HPz := Lib.hid hPz
        clear hR5 hPz hOz hO4 hO5 HH4
        generalize (D.writeR nx sb).1 = Dz at *
        generalize (D.writeR nx sb).2 = code at *
        go_wp2_with fail
        refine (ops_any _ p bl _ bm _ _ _ HPz.out.disk.blk).mono ?_
        rintro e w' ⟨rfl, rfl⟩
        go_wp2_with fail
        refine (pops _ B R Dz HPz.out.ref).mono ?_
        rintro e w' ⟨rfl, rfl⟩
        go_wp2_with fail
        refine (size_any _ p bl _ bm _ _ _ HPz.out.disk.blk).mono ?_
        rintro e w' ⟨rfl, rfl⟩
        go_wp2_with fail
        refine (psize _ B R Dz HPz.out.ref).mono ?_
        rintro e w' ⟨rfl, rfl⟩
        go_wp2
        go_ret
        exact ⟨rfl, ⟨Dz, HPz.out, by first | exact Hnz.out | rfl⟩, HOz.out⟩
    · skip
      go_wp2_with fail
      refine (sector_any _ n0 da dlen dcap bytes (Hs.out.more hO2)).mono ?_
      rintro e w3 ⟨gs, rfl, hb3, hg3, hO3⟩
      have hOa := hO2.then hO3 [] (by simp) (by simp)
      have hPa := HP2.out.more hO3
      have HPa := Lib.hid hPa
      have d2a := (hO3.cell (p := ⟨gx, 2, none⟩) hgl (by simp)).trans d2
      have d3a := (hO3.cell (p := ⟨gx, 3, none⟩) hgl (by simp)).trans d3
      have hplt := HP2.out.disk.plt
      have hllt := HP2.out.disk.blt
      have hmlt := HP2.out.disk.mlt
      have Hown := Lib.hid (own_lt HP2.out.ref)
      have hss : Src w3 (some ⟨gs, 0, none⟩) 64 (secB n0 bytes) := ⟨length_secB n0 bytes, fun _ => ⟨gs, 0, rfl, hb3.lt, blk_range hb3⟩⟩
      have Hss := Lib.hid hss
      generalize secB n0 bytes = sb at *
      clear hss hb3 hO3 hPa d2 d3
      by_cases h20 : (n0 % 20 == 0) = true
      · go_wp2_with fail
        refine (within_any _ n0 20 (by omega) (by omega)).mono ?_
        rintro e w' ⟨rfl, rfl⟩
        go_wp2_with fail
        have hsa := Hs.out.more hOa
        have HSa := Lib.hid hsa
        have HAa := Lib.hid (show 0 < dlen → ∀ b o, da = some ⟨b, o, none⟩ → b ≠ p ∧ b ≠ bl ∧ b ≠ bm from fun hp b o e => by have := HA.out hp b o e; omega)
        have HBa := Lib.hid (show 0 < dlen → ∀ b o, da = some ⟨b, o, none⟩ → ∀ k ∈ R.own, b ≠ k from fun hp b o e k hk => by have := HA.out hp b o e; have := own_ge HPa.out.ref k hk; omega)
        clear hsa
        refine (write_any _ p bl bm D nx _ _ _ bytes K HPa.out.disk HPa.out.calm (by omega) HSa.out (fun hp b o e => by have := HAa.out hp b o e; omega)).mono ?_
        rintro e w4 ⟨rfl, hD4, hO4⟩
        have hH4 := HPa.out.half hD4 hO4
        have HH4 := Lib.hid hH4
        clear hD4 hH4
        have hs4 := HSa.out.keep hO4 (fun hp b o e => by have := HAa.out hp b o e; simp; omega)
        have HS4 := Lib.hid hs4
        clear hs4
        go_wp2_with fail
        refine (rwrite_any _ B R D nx _ _ _ bytes K HH4.out.ref HPa.out.calm (by omega) HS4.out (fun hp b o e hm => by have := HAa.out hp b o e; have := HBa.out hp b o e b hm; omega)).mono ?_
        rintro e w5 ⟨rfl, hR5, hO5⟩
        have hPz := HH4.out.whole hR5 hO5 (writeR_calm HPa.out.calm nx bytes) HPa.out.pB HPa.out.lB HPa.out.mB
        have hOz : Only ([p, bl, bm] ++ R.own) w w5 := ((hOa.trans hO4).trans hO5).into (fun k hk => .inl (by simpa using hk))
        have Hnz := Lib.hid (writeR_n D nx bytes)
        have HOz := Lib.hid hOz
        have HPz := Lib.hid hPz
        clear hR5 hPz hOz hO4 hO5 HH4
        generalize (D.writeR nx bytes).1 = Dz at *
        generalize (D.writeR nx bytes).2 = code at *
        go_wp2_with fail
        refine (ops_any _ p bl _ bm _ _ _ HPz.out.disk.blk).mono ?_
        rintro e w' ⟨rfl, rfl⟩
        go_wp2_with fail
        refine (pops _ B R Dz HPz.out.ref).mono ?_
        rintro e w' ⟨rfl, rfl⟩
        go_wp2_with fail
        refine (size_any _ p bl _ bm _ _ _ HPz.out.disk.blk).mono ?_
        rintro e w' ⟨rfl, rfl⟩
        go_wp2_with fail
        refine (psize _ B R Dz HPz.out.ref).mono ?_
        rintro e w' ⟨rfl, rfl⟩
        go_wp2
        go_ret
        exact ⟨rfl, ⟨Dz, HPz.out, by first | exact Hnz.out | rfl⟩, HOz.out⟩
      · have h20' : (n0 % 20 == 0) = false := by simpa using h20
        clear h20
        go_wp2_with fail
        refine (within_any _ n0 20 (by omega) (by omega)).mono ?_
        rintro e w' ⟨rfl, rfl⟩
        go_wp2_with fail
        have HSa := Hss
        have HAa := Lib.hid (show 0 < 64 → ∀ b o, some (⟨gs, 0, none⟩ : Addr) = some ⟨b, o, none⟩ → b ≠ p ∧ b ≠ bl ∧ b ≠ bm from fun _ b o e => by injection e with e; injection e with e1; omega)
        have HBa := Lib.hid (show 0 < 64 → ∀ b o, some (⟨gs, 0, none⟩ : Addr) = some ⟨b, o, none⟩ → ∀ k ∈ R.own, b ≠ k from fun _ b o e k hk => by injection e with e; injection e with e1; have := Hown.out k hk; omega)
        refine (write_any _ p bl bm D nx _ _ _ sb K HPa.out.disk HPa.out.calm (by omega) HSa.out (fun hp b o e => by have := HAa.out hp b o e; omega)).mono ?_
        rintro e w4 ⟨rfl, hD4, hO4⟩
        have hH4 := HPa.out.half hD4 hO4
        have HH4 := Lib.hid hH4
        clear hD4 hH4
        have hs4 := HSa.out.keep hO4 (fun hp b o e => by have := HAa.out hp b o e; simp; omega)
        have HS4 := Lib.hid hs4
        clear hs4
        go_wp2_with fail
        refine (rwrite_any _ B R D nx _ _ _ sb K HH4.out.ref HPa.out.calm (by omega) HS4.out (fun hp b o e hm => by have := HAa.out hp b o e; have := HBa.out hp b o e b hm; omega)).mono ?_
        rintro e w5 ⟨rfl, hR5, hO5⟩
        have hPz := HH4.out.whole hR5 hO5 (writeR_calm HPa.out.calm nx sb) HPa.out.pB HPa.out.lB HPa.out.mB
        have hOz : Only ([p, bl, bm] ++ R.own) w w5 := ((hOa.trans hO4).trans hO5).into (fun k hk => .inl (by simpa using hk))
        have Hnz := Lib.hid (writeR_n D nx sb)
        have HOz := Lib.hid hOz
        have HPz := Lib.hid hPz
        clear hR5 hPz hOz hO4 hO5 HH4
        generalize (D.writeR nx sb).1 = Dz at *
        generalize (D.writeR nx sb).2 = code at *
        go_wp2_with fail
        refine (ops_any _ p bl _ bm _ _ _ HPz.out.disk.blk).mono ?_
        rintro e w' ⟨rfl, rfl⟩
        go_wp2_with fail
        refine (pops _ B R Dz HPz.out.ref).mono ?_
        rintro e w' ⟨rfl, rfl⟩
        go_wp2_with fail
        refine (size_any _ p bl _ bm _ _ _ HPz.out.disk.blk).mono ?_
        rintro e w' ⟨rfl, rfl⟩
        go_wp2_with fail
        refine (psize _ B R Dz HPz.out.ref).mono ?_
        rintro e w' ⟨rfl, rfl⟩
        go_wp2
        go_ret
        exact ⟨rfl, ⟨Dz, HPz.out, by first | exact Hnz.out | rfl⟩, HOz.out⟩
    · skip
      have hstr := empty_str
      cases hdd : D.dead with
      | true =>
        have Hdd := Lib.hid hdd
        clear hdd
        go_wp2_with fail
        refine (read_dead _ p bl bm D nx HP2.out.disk Hdd.out).mono ?_
        rintro e w' ⟨rfl, rfl⟩
        go_wp2_with fail
        refine (rread_dead _ B R (refOf D) nx HP2.out.ref Hdd.out).mono ?_
        rintro e w' ⟨rfl, rfl⟩
        have HPz := Lib.hid (show PairAt wc p bl bm B R D (K + 1) from ⟨HP2.out.disk, HP2.out.ref, calm_succ HP2.out.calm, HP2.out.pB, HP2.out.lB, HP2.out.mB⟩)
        have Hnz := Lib.hid (show D.n ≤ D.n from Nat.le_refl _)
        have HOz := Lib.hid (show Only ([p, bl, bm] ++ R.own) w wc from hO2.into (by simp))
        generalize hDz : D = Dz at *
        clear hDz
        go_wp2_with fail
        refine (ops_any _ p bl _ bm _ _ _ HPz.out.disk.blk).mono ?_
        rintro e w' ⟨rfl, rfl⟩
        go_wp2_with fail
        refine (pops _ B R Dz HPz.out.ref).mono ?_
        rintro e w' ⟨rfl, rfl⟩
        go_wp2_with fail
        refine (size_any _ p bl _ bm _ _ _ HPz.out.disk.blk).mono ?_
        rintro e w' ⟨rfl, rfl⟩
        go_wp2_with fail
        refine (psize _ B R Dz HPz.out.ref).mono ?_
        rintro e w' ⟨rfl, rfl⟩
        go_wp2
        go_ret
        exact ⟨rfl, ⟨Dz, HPz.out, by first | exact Hnz.out | rfl⟩, HOz.out⟩
      | false =>
        cases hh : hasB nx D.n with
        | false =>
          have Hdd := Lib.hid hdd
          have Hhh := Lib.hid hh
          clear hdd hh
          go_wp2_with fail
          refine (read_none _ p bl bm D nx HP2.out.disk Hdd.out Hhh.out).mono ?_
          rintro e w' ⟨rfl, rfl⟩
          go_wp2_with fail
          refine (rread_none _ B R (refOf D) nx HP2.out.ref Hdd.out Hhh.out).mono ?_
          rintro e w' ⟨rfl, rfl⟩
          have HPz := Lib.hid (show PairAt wc p bl bm B R D (K + 1) from ⟨HP2.out.disk, HP2.out.ref, calm_succ HP2.out.calm, HP2.out.pB, HP2.out.lB, HP2.out.mB⟩)
          have Hnz := Lib.hid (show D.n ≤ D.n from Nat.le_refl _)
          have HOz := Lib.hid (show Only ([p, bl, bm] ++ R.own) w wc from hO2.into (by simp))
          generalize hDz : D = Dz at *
          clear hDz
          go_wp2_with fail
          refine (ops_any _ p bl _ bm _ _ _ HPz.out.disk.blk).mono ?_
          rintro e w' ⟨rfl, rfl⟩
          go_wp2_with fail
          refine (pops _ B R Dz HPz.out.ref).mono ?_
          rintro e w' ⟨rfl, rfl⟩
          go_wp2_with fail
          refine (size_any _ p bl _ bm _ _ _ HPz.out.disk.blk).mono ?_
          rintro e w' ⟨rfl, rfl⟩
          go_wp2_with fail
          refine (psize _ B R Dz HPz.out.ref).mono ?_
          rintro e w' ⟨rfl, rfl⟩
          go_wp2
          go_ret
          exact ⟨rfl, ⟨Dz, HPz.out, by first | exact Hnz.out | rfl⟩, HOz.out⟩
        | true =>
          have hnx : 0 ≤ nx ∧ nx < D.n := by simpa [hasB] using hh
          obtain ⟨X, rfl⟩ := Int.eq_ofNat_of_zero_le hnx.1
          have hX : X < D.n := by omega
          have Hdd := Lib.hid hdd
          clear hdd hh hnx
          go_wp2_with fail
          refine (read_ok _ p bl bm D X HP2.out.disk Hdd.out hX).mono ?_
          rintro e w3 ⟨g3, rfl, hb3, hg3, hO3⟩
          have hlen : (D.now X).length = 64 := by obtain ⟨_, _, _, _, _, _, hl⟩ := HP2.out.ref.now X hX; exact hl
          have hP3 := HP2.out.more hO3
          go_wp2_with fail
          refine (rread_ok _ B R (refOf D) X hP3.ref Hdd.out hX).mono ?_
          rintro e w4 ⟨g4, c4, rfl, hr4, hg4, hlt4, hO4⟩
          have q1 := conv_str w4 g3 0 64 64 (D.now X) hlen (blk_range (hb3.only hO4 (by simp)))
          have q2 := conv_str w4 g4 0 c4 64 (D.now X) hlen hr4
          have hP4 := hP3.more hO4
          have HPz := Lib.hid (show PairAt w4 p bl bm B R D (K + 1) from ⟨hP4.disk, hP4.ref, calm_succ hP4.calm, hP4.pB, hP4.lB, hP4.mB⟩)
          have Hnz := Lib.hid (show D.n ≤ D.n from Nat.le_refl _)
          have HOz := Lib.hid (show Only ([p, bl, bm] ++ R.own) w w4 from ((hO2.trans hO3).trans hO4).into (by simp))
          generalize D.now X = bx at *
          clear hb3 hP3 hP4 hr4 hlen hO3 hO4
          generalize hDz : D = Dz at *
          clear hDz
          go_wp2_with fail
          refine (ops_any _ p bl _ bm _ _ _ HPz.out.disk.blk).mono ?_
          rintro e w' ⟨rfl, rfl⟩
          go_wp2_with fail
          refine (pops _ B R Dz HPz.out.ref).mono ?_
          rintro e w' ⟨rfl, rfl⟩
          go_wp2_with fail
          refine (size_any _ p bl _ bm _ _ _ HPz.out.disk.blk).mono ?_
          rintro e w' ⟨rfl, rfl⟩
          go_wp2_with fail
          refine (psize _ B R Dz HPz.out.ref).mono ?_
          rintro e w' ⟨rfl, rfl⟩
          go_wp2
          go_ret
          exact ⟨rfl, ⟨Dz, HPz.out, by first | exact Hnz.out | rfl⟩, HOz.out⟩
    · skip
      have hstr := empty_str
      cases hdd : D.dead with
      | true =>
        have Hdd := Lib.hid hdd
        clear hdd
        go_wp2_with fail
        refine (read_dead _ p bl bm D nx HP2.out.disk Hdd.out).mono ?_
        rintro e w' ⟨rfl, rfl⟩
        go_wp2_with fail
        refine (rread_dead _ B R (refOf D) nx HP2.out.ref Hdd.out).mono ?_
        rintro e w' ⟨rfl, rfl⟩
        have HPz := Lib.hid (show PairAt wc p bl bm B R D (K + 1) from ⟨HP2.out.disk, HP2.out.ref, calm_succ HP2.out.calm, HP2.out.pB, HP2.out.lB, HP2.out.mB⟩)
        have Hnz := Lib.hid (show D.n ≤ D.n from Nat.le_refl _)
        have HOz := Lib.hid (show Only ([p, bl, bm] ++ R.own) w wc from hO2.into (by simp))
        generalize hDz : D = Dz at *
        clear hDz
        go_wp2_with fail
        refine (ops_any _ p bl _ bm _ _ _ HPz.out.disk.blk).mono ?_
        rintro e w' ⟨rfl, rfl⟩
        go_wp2_with fail
        refine (pops _ B R Dz HPz.out.ref).mono ?_
        rintro e w' ⟨rfl, rfl⟩
        go_wp2_with fail
        refine (size_any _ p bl _ bm _ _ _ HPz.out.disk.blk).mono ?_
        rintro e w' ⟨rfl, rfl⟩
        go_wp2_with fail
        refine (psize _ B R Dz HPz.out.ref).mono ?_
        rintro e w' ⟨rfl, rfl⟩
        go_wp2
        go_ret
        exact ⟨rfl, ⟨Dz, HPz.out, by first | exact Hnz.out | rfl⟩, HOz.out⟩
      | false =>
        cases hh : hasB nx D.n with
        | false =>
          have Hdd := Lib.hid hdd
          have Hhh := Lib.hid hh
          clear hdd hh
          go_wp2_with fail
          refine (read_none _ p bl bm D nx HP2.out.disk Hdd.out Hhh.out).mono ?_
          rintro e w' ⟨rfl, rfl⟩
          go_wp2_with fail
          refine (rread_none _ B R (refOf D) nx HP2.out.ref Hdd.out Hhh.out).mono ?_
          rintro e w' ⟨rfl, rfl⟩
          have HPz := Lib.hid (show PairAt wc p bl bm B R D (K + 1) from ⟨HP2.out.disk, HP2.out.ref, calm_succ HP2.out.calm, HP2.out.pB, HP2.out.lB, HP2.out.mB⟩)
          have Hnz := Lib.hid (show D.n ≤ D.n from Nat.le_refl _)
          have HOz := Lib.hid (show Only ([p, bl, bm] ++ R.own) w wc from hO2.into (by simp))
          generalize hDz : D = Dz at *
          clear hDz
          go_wp2_with fail
          refine (ops_any _ p bl _ bm _ _ _ HPz.out.disk.blk).mono ?_
          rintro e w' ⟨rfl, rfl⟩
          go_wp2_with fail
          refine (pops _ B R Dz HPz.out.ref).mono ?_
          rintro e w' ⟨rfl, rfl⟩
          go_wp2_with fail
          refine (size_any _ p bl _ bm _ _ _ HPz.out.disk.blk).mono ?_
          rintro e w' ⟨rfl, rfl⟩
          go_wp2_with fail
          refine (psize _ B R Dz HPz.out.ref).mono ?_
          rintro e w' ⟨rfl, rfl⟩
          go_wp2
          go_ret
          exact ⟨rfl, ⟨Dz, HPz.out, by first | exact Hnz.out | rfl⟩, HOz.out⟩
        | true =>
          have hnx : 0 ≤ nx ∧ nx < D.n := by simpa [hasB] using hh
          obtain ⟨X, rfl⟩ := Int.eq_ofNat_of_zero_le hnx.1
          have hX : X < D.n := by omega
          have Hdd := Lib.hid hdd
          clear hdd hh hnx
          go_wp2_with fail
          refine (read_ok _ p bl bm D X HP2.out.disk Hdd.out hX).mono ?_
          rintro e w3 ⟨g3, rfl, hb3, hg3, hO3⟩
          have hlen : (D.now X).length = 64 := by obtain ⟨_, _, _, _, _, _, hl⟩ := HP2.out.ref.now X hX; exact hl
          have hP3 := HP2.out.more hO3
          go_wp2_with fail
          refine (rread_ok _ B R (refOf D) X hP3.ref Hdd.out hX).mono ?_
          rintro e w4 ⟨g4, c4, rfl, hr4, hg4, hlt4, hO4⟩
          have q1 := conv_str w4 g3 0 64 64 (D.now X) hlen (blk_range (hb3.only hO4 (by simp)))
          have q2 := conv_str w4 g4 0 c4 64 (D.now X) hlen hr4
          have hP4 := hP3.more hO4
          have HPz := Lib.hid (show PairAt w4 p bl bm B R D (K + 1) from ⟨hP4.disk, hP4.ref, calm_succ hP4.calm, hP4.pB, hP4.lB, hP4.mB⟩)
          have Hnz := Lib.hid (show D.n ≤ D.n from Nat.le_refl _)
          have HOz := Lib.hid (show Only ([p, bl, bm] ++ R.own) w w4 from ((hO2.trans hO3).trans hO4).into (by simp))
          generalize D.now X = bx at *
          clear hb3 hP3 hP4 hr4 hlen hO3 hO4
          generalize hDz : D = Dz at *
          clear hDz
          go_wp2_with fail
          refine (ops_any _ p bl _ bm _ _ _ HPz.out.disk.blk).mono ?_
          rintro e w' ⟨rfl, rfl⟩
          go_wp2_with fail
          refine (pops _ B R Dz HPz.out.ref).mono ?_
          rintro e w' ⟨rfl, rfl⟩
          go_wp2_with fail
          refine (size_any _ p bl _ bm _ _ _ HPz.out.disk.blk).mono ?_
          rintro e w' ⟨rfl, rfl⟩
          go_wp2_with fail
          refine (psize _ B R Dz HPz.out.ref).mono ?_
          rintro e w' ⟨rfl, rfl⟩
          go_wp2
          go_ret
          exact ⟨rfl, ⟨Dz, HPz.out, by first | exact Hnz.out | rfl⟩, HOz.out⟩
    · skip
      have hOa := hO2
      have HPa := HP2
      go_wp2_with fail
      refine (flush_any _ p bl bm D K HPa.out.disk HPa.out.calm (by omega)).mono ?_
      rintro e w4 ⟨rfl, hD4, hO4⟩
      have hH4 := HPa.out.half hD4 hO4
      have HH4 := Lib.hid hH4
      clear hD4 hH4
      go_wp2_with fail
      refine (rflush_any _ B R D K HH4.out.ref HPa.out.calm (by omega)).mono ?_
      rintro e w5 ⟨rfl, hR5, hO5⟩
      have hPz := HH4.out.whole hR5 hO5 (flushR_calm HPa.out.calm) HPa.out.pB HPa.out.lB HPa.out.mB
      have hOz : Only ([p, bl, bm] ++ R.own) w w5 := ((hOa.trans hO4).trans hO5).into (fun k hk => .inl (by simpa using hk))
      have Hnz := Lib.hid (flushR_n D)
      have HOz := Lib.hid hOz
      have HPz := Lib.hid hPz
      clear hR5 hPz hOz hO4 hO5 HH4
      generalize D.flushR.1 = Dz at *
      generalize D.flushR.2 = code at *
      go_wp2_with fail
      refine (ops_any _ p bl _ bm _ _ _ HPz.out.disk.blk).mono ?_
      rintro e w' ⟨rfl, rfl⟩
      go_wp2_with fail
      refine (pops _ B R Dz HPz.out.ref).mono ?_
      rintro e w' ⟨rfl, rfl⟩
      go_wp2_with fail
      refine (size_any _ p bl _ bm _ _ _ HPz.out.disk.blk).mono ?_
      rintro e w' ⟨rfl, rfl⟩
      go_wp2_with fail
      refine (psize _ B R Dz HPz.out.ref).mono ?_
      rintro e w' ⟨rfl, rfl⟩
      go_wp2
      go_ret
      exact ⟨rfl, ⟨Dz, HPz.out, by first | exact Hnz.out | rfl⟩, HOz.out⟩
    · skip
      have hOa := hO2
      have HPa := HP2

      go_wp2_with fail
      refine (within_any _ n0 9 (by omega) (by omega)).mono ?_
      rintro e w' ⟨rfl, rfl⟩
      have hf0 := Int.emod_nonneg n0 (show (9 : Int) ≠ 0 by omega)
      have hf1 := Int.emod_lt_of_pos n0 (show (0 : Int) < 9 by omega)
      generalize n0 % 9 = fx at *
      go_wp2_with fail
      refine (fuse_any _ p bl bm D (fx - 1) HPa.out.disk).mono ?_
      rintro e w4 ⟨rfl, hD4, hO4⟩
      have hH4 := HPa.out.half hD4 hO4
      have HH4 := Lib.hid hH4
      clear hD4 hH4
      go_wp2_with fail
      refine (rfuse_any _ B R D (fx - 1) HH4.out.ref).mono ?_
      rintro e w5 ⟨rfl, hR5, hO5⟩
      have hPz := HH4.out.whole hR5 hO5 (fuseR_calm HPa.out.calm (fx - 1) (by omega)) HPa.out.pB HPa.out.lB HPa.out.mB
      have hOz : Only ([p, bl, bm] ++ R.own) w w5 := ((hOa.trans hO4).trans hO5).into (fun k hk => .inl (by simpa using hk))
      have Hnz := Lib.hid (show (D.fuseR (fx - 1)).n = D.n by unfold DS.fuseR; split <;> rfl)
      have HOz := Lib.hid hOz
      have HPz := Lib.hid hPz
      clear hR5 hPz hOz hO4 hO5 HH4
      generalize D.fuseR (fx - 1) = Dz at *
      go_wp2_with fail
      refine (ops_any _ p bl _ bm _ _ _ HPz.out.disk.blk).mono ?_
      rintro e w' ⟨rfl, rfl⟩
      go_wp2_with fail
      refine (pops _ B R Dz HPz.out.ref).mono ?_
      rintro e w' ⟨rfl, rfl⟩
      go_wp2_with fail
      refine (size_any _ p bl _ bm _ _ _ HPz.out.disk.blk).mono ?_
      rintro e w' ⟨rfl, rfl⟩
      go_wp2_with fail
      refine (psize _ B R Dz HPz.out.ref).mono ?_
      rintro e w' ⟨rfl, rfl⟩
      go_wp2
      go_ret
      exact ⟨rfl, ⟨Dz, HPz.out, by first | exact Hnz.out | rfl⟩, HOz.out⟩
    · skip
      have hOa := hO2
      have HPa := HP2

      have HSa := Lib.hid (Hs.out.more hO2)
      have HAa := Lib.hid (show 0 < dlen → ∀ b o, da = some ⟨b, o, none⟩ → b ≠ p ∧ b ≠ bl ∧ b ≠ bm from fun hp b o e => by have := HA.out hp b o e; omega)
      have HBa := Lib.hid (show 0 < dlen → ∀ b o, da = some ⟨b, o, none⟩ → b ∉ R.own from fun hp b o e hm => by have := HA.out hp b o e; have := own_ge HP2.out.ref b hm; omega)
      go_wp2_with fail
      refine (crash_any _ p bl bm D da dlen dcap bytes HPa.out.disk HSa.out (fun hp b o e => ⟨(HAa.out hp b o e).2.1, (HAa.out hp b o e).2.2⟩)).mono ?_
      rintro e w4 ⟨rfl, hD4, hO4⟩
      have hH4 := HPa.out.half hD4 hO4
      have HH4 := Lib.hid hH4
      clear hD4 hH4
      have hs4 := HSa.out.keep hO4 (fun hp b o e => by have := HAa.out hp b o e; simp; omega)
      have HS4 := Lib.hid hs4
      have d3a := (hO4.cell (p := ⟨gx, 3, none⟩) hgl (by have := H.out.disk.plt; have := H.out.disk.blt; have := H.out.disk.mlt; have := Hgx.out; simp; omega)).trans d3
      clear hs4
      go_wp2_with fail
      refine (rcrash_all _ B R D da dlen dcap bytes HH4.out.ref HS4.out HBa.out).mono ?_
      rintro e w5 ⟨rfl, hR5, hO5⟩
      have hPz := HH4.out.whole hR5 hO5 (crashed_calm HPa.out.calm bytes) HPa.out.pB HPa.out.lB HPa.out.mB
      have hOz : Only ([p, bl, bm] ++ R.own) w w5 := ((hOa.trans hO4).trans hO5).into (fun k hk => .inl (by simpa using hk))
      have Hnz := Lib.hid (show (D.crashed bytes).n = D.n from rfl)
      have HOz := Lib.hid hOz
      have HPz := Lib.hid hPz
      clear hR5 hPz hOz hO4 hO5 HH4
      generalize D.crashed bytes = Dz at *
      go_wp2_with fail
      refine (ops_any _ p bl _ bm _ _ _ HPz.out.disk.blk).mono ?_
      rintro e w' ⟨rfl, rfl⟩
      go_wp2_with fail
      refine (pops _ B R Dz HPz.out.ref).mono ?_
      rintro e w' ⟨rfl, rfl⟩
      go_wp2_with fail
      refine (size_any _ p bl _ bm _ _ _ HPz.out.disk.blk).mono ?_
      rintro e w' ⟨rfl, rfl⟩
      go_wp2_with fail
      refine (psize _ B R Dz HPz.out.ref).mono ?_
      rintro e w' ⟨rfl, rfl⟩
      go_wp2
      go_ret
      exact ⟨rfl, ⟨Dz, HPz.out, by first | exact Hnz.out | rfl⟩, HOz.out⟩
    · skip
      have hOa := hO2
      have HPa := HP2

      have HSa := Lib.hid (Hs.out.more hO2)
      have HAa := Lib.hid (show 0 < dlen → ∀ b o, da = some ⟨b, o, none⟩ → b ≠ p ∧ b ≠ bl ∧ b ≠ bm from fun hp b o e => by have := HA.out hp b o e; omega)
      have HBa := Lib.hid (show 0 < dlen → ∀ b o, da = some ⟨b, o, none⟩ → b ∉ R.own from fun hp b o e hm => by have := HA.out hp b o e; have := own_ge HP2.out.ref b hm; omega)
      go_wp2_with fail
      refine (crash_any _ p bl bm D da dlen dcap bytes HPa.out.disk HSa.out (fun hp b o e => ⟨(HAa.out hp b o e).2.1, (HAa.out hp b o e).2.2⟩)).mono ?_
      rintro e w4 ⟨rfl, hD4, hO4⟩
      have hH4 := HPa.out.half hD4 hO4
      have HH4 := Lib.hid hH4
      clear hD4 hH4
      have hs4 := HSa.out.keep hO4 (fun hp b o e => by have := HAa.out hp b o e; simp; omega)
      have HS4 := Lib.hid hs4
      have d3a := (hO4.cell (p := ⟨gx, 3, none⟩) hgl (by have := H.out.disk.plt; have := H.out.disk.blt; have := H.out.disk.mlt; have := Hgx.out; simp; omega)).trans d3
      clear hs4
      go_wp2_with fail
      refine (rcrash_all _ B R D da dlen dcap bytes HH4.out.ref HS4.out HBa.out).mono ?_
      rintro e w5 ⟨rfl, hR5, hO5⟩
      have hPz := HH4.out.whole hR5 hO5 (crashed_calm HPa.out.calm bytes) HPa.out.pB HPa.out.lB HPa.out.mB
      have hOz : Only ([p, bl, bm] ++ R.own) w w5 := ((hOa.trans hO4).trans hO5).into (fun k hk => .inl (by simpa using hk))
      have Hnz := Lib.hid (show (D.crashed bytes).n = D.n from rfl)
      have HOz := Lib.hid hOz
      have HPz := Lib.hid hPz
      clear hR5 hPz hOz hO4 hO5 HH4
      generalize D.crashed bytes = Dz at *
      go_wp2_with fail
      refine (ops_any _ p bl _ bm _ _ _ HPz.out.disk.blk).mono ?_
      rintro e w' ⟨rfl, rfl⟩
      go_wp2_with fail
      refine (pops _ B R Dz HPz.out.ref).mono ?_
      rintro e w' ⟨rfl, rfl⟩
      go_wp2_with fail
      refine (size_any _ p bl _ bm _ _ _ HPz.out.disk.blk).mono ?_
      rintro e w' ⟨rfl, rfl⟩
      go_wp2_with fail
      refine (psize _ B R Dz HPz.out.ref).mono ?_
      rintro e w' ⟨rfl, rfl⟩
      go_wp2
      go_ret
      exact ⟨rfl, ⟨Dz, HPz.out, by first | exact Hnz.out | rfl⟩, HOz.out⟩

end Go.Proofs.Ytlnmpbfalflbgaa
