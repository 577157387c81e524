/-
  A change from no files, read (readChange).
-/
import Derived.Test.YtfampoblcielpaaGreatStS
namespace Go.Proofs.YtfampoblcielpaaGreat
set_option maxRecDepth 100000
set_option linter.unusedVariables false
open Go.RowKit Go.Sort Go.Maps

/-- A reader that stands ahead of bytes. -/
def RdAt (w : World) (rp b : Nat) (l : List UInt8) : Prop :=
  ∃ o cap, IsBlk w rp (.cells #[.slice (some ⟨b, o, none⟩) l.length cap] 109) ∧ Src w (some ⟨b, o, none⟩) l.length l ∧ l.length ≤ cap ∧ b ≠ rp
theorem RdAt.keep {w w' : World} {rp b : Nat} {l : List UInt8} {S : List Nat} (h : RdAt w rp b l) (hO : Only S w w') (h1 : rp ∉ S) (h2 : b ∉ S) : RdAt w' rp b l := by
  obtain ⟨o, cap, hb, hs, hc, hn⟩ := h
  exact ⟨o, cap, hb.only hO h1, hs.keep hO (fun _ x y e => by injection e with e; injection e with e1; rw [← e1]; exact h2), hc, hn⟩

set_option maxHeartbeats 2000000 in
theorem take_any (w : World) (rp b : Nat) (x l : List UInt8) (hl : (x ++ l).length ≤ 1000000) (h : RdAt w rp b (x ++ l)) :
    Calls Tryz.prog 73 #[.pointer (some ⟨rp, 0, none⟩), .int .i64 (x.length : Nat)] w fun e w' => ∃ o cap, e = .returned (.slice (some ⟨b, o, none⟩) x.length cap) ∧ Src w' (some ⟨b, o, none⟩) x.length x ∧ x.length ≤ cap ∧ RdAt w' rp b l ∧ Only [rp] w w' := by
  obtain ⟨o, cap, hb, hs, hc, hn⟩ := h
  have H := Lib.hid hs
  have Hb := Lib.hid hb
  have c0 := hb.cell 0
  have z0 := hb.notFrozen 0
  simp at c0
  rw [List.length_append] at hl hc
  clear hs hb
  have hmin : min (x.length : Int) ((x.length : Int) + (l.length : Int)) = (x.length : Int) := by omega
  have Hfin : Hid (∀ o' c', IsBlk (w.setCell ⟨rp, 0, none⟩ (.slice (some ⟨b, o', none⟩) l.length c')) rp (.cells #[.slice (some ⟨b, o', none⟩) l.length c'] 109) ∧ Only [rp] w (w.setCell ⟨rp, 0, none⟩ (.slice (some ⟨b, o', none⟩) l.length c'))) := Lib.hid (fun o' c' => ⟨Hb.out.put 0 _, only_put w _⟩)
  have Hx : Hid (Src w (some ⟨b, o, none⟩) x.length x) := Lib.hid (by
    have := H.out.sub 0 x.length (by rw [List.length_append]; omega)
    simpa using this)
  have Hl : Hid (Src w (some ⟨b, o + x.length, none⟩) l.length l) := Lib.hid (by
    have := H.out.sub x.length l.length (by rw [List.length_append]; omega)
    simpa using this)
  have Hl0 : Hid (cap = x.length → Src w (some ⟨b, o, none⟩) l.length l) := Lib.hid (fun e => ⟨rfl, fun hp => by omega⟩)
  have hsub : x.length + l.length - x.length = l.length := by omega
  have Hb1 : Hid (∀ o, ∀ y m, (some (⟨b, o, none⟩ : Addr)) = some ⟨y, m, none⟩ → y ∉ [rp]) := Lib.hid (fun o y m e => by injection e with e; injection e with e1; rw [← e1]; simpa using hn)
  go_enter Tryz.func73, Tryz.ntmps73
  go_wp2_with fail
  all_goals go_ret
  all_goals first
    | exact ⟨o, _, rfl, Hx.out.keep (Hfin.out o 0).2 (fun _ => Hb1.out o), by omega, ⟨o, 0, (Hfin.out o 0).1, (Hl0.out (by assumption)).keep (Hfin.out o 0).2 (fun _ => Hb1.out o), by omega, hn⟩, (Hfin.out o 0).2⟩
    | exact ⟨o, _, rfl, Hx.out.keep (Hfin.out (o + x.length) (cap - x.length)).2 (fun _ => Hb1.out o), by omega, ⟨_, _, (Hfin.out (o + x.length) (cap - x.length)).1, Hl.out.keep (Hfin.out (o + x.length) (cap - x.length)).2 (fun _ => Hb1.out _), by omega, hn⟩, (Hfin.out (o + x.length) (cap - x.length)).2⟩

set_option maxHeartbeats 2000000 in
theorem rdnum_any (w : World) (rp b : Nat) (x l : List UInt8) (hx : x.length ≤ 2) (hl : (x ++ l).length ≤ 1000000) (h : RdAt w rp b (x ++ l)) :
    Calls Tryz.prog 50 #[.pointer (some ⟨rp, 0, none⟩), .int .i64 (x.length : Nat)] w fun e w' => e = .returned (.int .i64 (numB x : Nat)) ∧ RdAt w' rp b l ∧ Only [rp] w w' := by
  have H := Lib.hid h
  clear h
  go_enter Tryz.func50, Tryz.ntmps50
  go_wp2_with fail
  refine (take_any _ rp b x l hl H.out).mono ?_
  rintro e w1 ⟨o, cap, rfl, hs, hc, hR, hO⟩
  have Hs := Lib.hid hs
  have HR := Lib.hid hR
  have HO := Lib.hid hO
  clear hs hR hO
  go_wp2_with fail
  go_loopw [12, 5] (fun i n wr => ∃ j : Nat, j ≤ x.length ∧ i = .int .i64 j ∧ n = .int .i64 (numB (x.take j) : Nat) ∧ wr = w1) (fun i _ _ => x.length - (intOf i).toNat)
  case atStart => exact ⟨0, by omega, rfl, by simp [numB], rfl⟩
  case round =>
    obtain ⟨j, hj, rfl, rfl, rfl⟩ := hrel
    by_cases hlt : j < x.length
    · have hlti : (j : Int) < (x.length : Int) := by omega
      obtain ⟨b', o', e, hb', hr⟩ := Hs.out.2 (by omega)
      injection e with e; injection e with e1 e2; subst e1; subst e2
      have hcell := Src.cell hr j hlt
      have htk := take_snoc x j hlt
      generalize hcv : x[j] = c at *
      have hcl : c.toNat < 256 := c.toNat_lt
      clear hr
      have hjj : j = 0 ∨ j = 1 := by omega
      rcases hjj with rfl | rfl
      · have hcell' : wr.cell? ⟨b, o, none⟩ = some (.int .u8 c.toNat) := by simpa using hcell
        have hor : bits BinOp.or IntKind.i64 0 (c.toNat : Int) = (c.toNat : Int) := by
          have := i64_or_nat 0 c.toNat (by omega) (by omega); simpa using this
        go_wp2_with fail
        go_roundw
        case rel => exact ⟨1, by omega, rfl, by rw [show (1 : Nat) = 0 + 1 from rfl, htk]; simp [numB, hor], trivial⟩
        case measure => simp [intOf]; omega
      · have hor : bits BinOp.or IntKind.i64 ((numB (x.take 1) : Nat) : Int) ((c.toNat : Int) * 256) = ((numB (x.take 1) + 256 * c.toNat : Nat) : Int) := by
          have hn : numB (x.take 1) < 256 := by have := numB_lt (x.take 1); rw [List.length_take, show min 1 x.length = 1 by omega] at this; simpa using this
          have e := i64_or_nat (numB (x.take 1)) (c.toNat * 256) (by omega) (by omega)
          rw [Int.natCast_mul] at e
          refine e.trans ?_
          have e2 := Nat.two_pow_add_eq_or_of_lt (i := 8) (b := numB (x.take 1)) (by omega) c.toNat
          rw [Nat.or_comm, Nat.mul_comm c.toNat 256, show (256 : Nat) = 2 ^ 8 from rfl, ← e2]
          omega
        have htk2 : numB (x.take 2) = numB (x.take 1) + 256 * c.toNat := by
          rw [show (2 : Nat) = 1 + 1 from rfl, htk, numB_append, List.length_take, show min 1 x.length = 1 by omega]; simp [numB]
        go_wp2_with fail
        go_roundw
        case rel => exact ⟨2, by omega, rfl, by rw [htk2]; simp, trivial⟩
        case measure => simp [intOf]; omega
    · have hge : ¬ (j : Int) < (x.length : Int) := by omega
      have Htk : Hid (x.take j = x) := Lib.hid (List.take_of_length_le (by omega))
      rw [Htk.out]
      go_wp2
      go_ret
      exact ⟨rfl, HR.out, HO.out⟩

end Go.Proofs.YtfampoblcielpaaGreat
namespace Go.Proofs.YtfampoblcielpaaGreat
set_option maxRecDepth 100000
set_option linter.unusedVariables false
open Go.RowKit Go.Sort Go.Maps

set_option maxHeartbeats 2000000 in
theorem rdtext_any (w : World) (rp b k : Nat) (s l : List UInt8) (hk : k ≤ 2) (hs : s.length < 256 ^ k) (hl : (leB k s.length ++ s ++ l).length ≤ 1000000) (h : RdAt w rp b (leB k s.length ++ s ++ l)) :
    Calls Tryz.prog 54 #[.pointer (some ⟨rp, 0, none⟩), .int .i64 (k : Nat)] w fun e w' => e = .returned (encStr s) ∧ RdAt w' rp b l ∧ Only [rp] w w' := by
  have H := Lib.hid h
  clear h
  have e1 := rdnum_any w rp b (leB k s.length) (s ++ l) (by rw [length_leB]; exact hk) (by rw [← List.append_assoc]; exact hl) (by rw [← List.append_assoc]; exact H.out)
  rw [length_leB, numB_leB_lt hs] at e1
  simp only [List.length_append, length_leB] at hl
  unfold encStr
  go_enter Tryz.func54, Tryz.ntmps54
  go_wp2_with fail
  refine e1.mono ?_
  rintro e w1 ⟨rfl, hR1, hO1⟩
  have HR1 := Lib.hid hR1
  have HO1 := Lib.hid hO1
  clear hR1 hO1 e1
  go_wp2_with fail
  refine (take_any _ rp b s l (by rw [List.length_append]; omega) HR1.out).mono ?_
  rintro e w2 ⟨o, cap, rfl, hs2, hc2, hR2, hO2⟩
  have hcv := conv_src w2 _ s.length cap s hs2
  have HR2 := Lib.hid hR2
  have HO2 : Hid (Only [rp] w w2) := Lib.hid ((HO1.out.trans hO2).into (fun j hj => .inl (by simpa using hj)))
  clear hR2 hO2 hs2
  go_wp2
  go_ret
  exact ⟨rfl, HR2.out, HO2.out⟩

set_option maxHeartbeats 2000000 in
theorem rdfile_any (w : World) (rp b : Nat) (f : FileM) (l : List UInt8) (h1 : f.1.length ≤ 255) (h2 : f.2.length ≤ 3000) (hl : (fileB f ++ l).length ≤ 1000000) (h : RdAt w rp b (fileB f ++ l)) (hrp : rp < w.heap.size) (hb : b < w.heap.size) :
    Calls Tryz.prog 51 #[.pointer (some ⟨rp, 0, none⟩)] w fun e w' => e = .returned (fileV f) ∧ RdAt w' rp b l ∧ Only [rp] w w' := by
  have H := Lib.hid h
  clear h
  obtain ⟨fn, ft⟩ := f
  unfold fileV
  simp only at h1 h2 ⊢
  go_enter Tryz.func51, Tryz.ntmps51
  have eb : fileB (fn, ft) ++ l = leB 1 fn.length ++ fn ++ (leB 2 ft.length ++ ft ++ l) := by simp [fileB, List.append_assoc]
  rw [eb] at hl
  have HH : Hid (RdAt w rp b (leB 1 fn.length ++ fn ++ (leB 2 ft.length ++ ft ++ l))) := Lib.hid (by rw [← eb]; exact H.out)
  clear H eb
  have hOa := Lib.hid ((Only.refl [] w).alloc (.cells #[.string ⟨#[]⟩, .string ⟨#[]⟩] 48))
  have Hq := Lib.hid (IsBlk.made w (.cells #[.string ⟨#[]⟩, .string ⟨#[]⟩] 48))
  have HR0 := Lib.hid (HH.out.keep hOa.out (by simp) (by simp))
  have hl2 : (leB 2 ft.length ++ ft ++ l).length ≤ 1000000 := by simp only [List.length_append] at hl ⊢; omega
  go_wp2_with fail
  refine (rdtext_any _ rp b 1 fn _ (by omega) (by omega) hl HR0.out).mono ?_
  rintro e w1 ⟨rfl, hR1, hO1⟩
  have HR1 := Lib.hid hR1
  have HO1 : Hid (Only [rp] w w1) := Lib.hid ((hOa.out.trans hO1).into (fun j hj => .inl (by simpa using hj)))
  have Hq1 := Lib.hid (Hq.out.only hO1 (by simp; omega))
  clear hR1 hO1
  generalize hqq : w.heap.size = q at *
  clear hOa Hq HR0
  go_wp2_with fail
  refine (rdtext_any _ rp b 2 ft l (by omega) (by omega) hl2 HR1.out).mono ?_
  rintro e w2 ⟨rfl, hR2, hO2⟩
  have HR2 := Lib.hid hR2
  have HO2 : Hid (Only [rp] w w2) := Lib.hid ((HO1.out.trans hO2).into (fun j hj => .inl (by simpa using hj)))
  have Hq2 := Lib.hid (Hq1.out.only hO2 (by simp; omega))
  have c0 := Hq2.out.cell 0
  have c1 := Hq2.out.cell 1
  have z0 := Hq2.out.notFrozen 0
  have z1 := Hq2.out.notFrozen 1
  simp at c0 c1
  clear hR2 hO2 Hq1
  unfold encStr
  go_wp2_with fail
  have Hq4 := (Hq2.out.put 0 (.string ⟨fn.toArray⟩)).put 1 (.string ⟨ft.toArray⟩)
  have hO4 : Only [q] w2 ((w2.setCell ⟨q, 0, none⟩ (.string ⟨fn.toArray⟩)).setCell ⟨q, 1, none⟩ (.string ⟨ft.toArray⟩)) := ((only_put (p := q) (i := 0) w2 _).trans (only_put (p := q) (i := 1) _ _)).into (fun j hj => .inl (by simpa using hj))
  clear c0 c1 z0 z1
  have c0 := Hq4.cell 0
  have c1 := Hq4.cell 1
  have HR4 := HR2.out.keep hO4 (by simp; omega) (by simp; omega)
  have HO4 : Only [rp] w _ := (HO2.out.trans hO4).into (fun j hj => by simp at hj ⊢; omega)
  clear Hq4 hO4
  generalize (w2.setCell ⟨q, 0, none⟩ (.string ⟨fn.toArray⟩)).setCell ⟨q, 1, none⟩ (.string ⟨ft.toArray⟩) = W at *
  simp at c0 c1
  unfold encStr
  refine bodyPost_ret (v := .agg #[.string ⟨fn.toArray⟩, .string ⟨ft.toArray⟩]) ?_ rfl ⟨rfl, HR4, HO4⟩
  simp [results, go_sem, c0, c1]

end Go.Proofs.YtfampoblcielpaaGreat
namespace Go.Proofs.YtfampoblcielpaaGreat
set_option maxRecDepth 100000
set_option linter.unusedVariables false
open Go.RowKit Go.Sort Go.Maps

theorem equal_same (w : World) (p1 p2 : Option Addr) (n c d : Nat) (l : List UInt8) (h1 : Src w p1 n l) (h2 : Src w p2 n l) :
    Calls Tryz.prog 52 #[.slice p1 n c, .slice p2 n d] w fun e w' => e = .returned (.bool true) ∧ w = w' := by
  have e1 := conv_src w p1 n c l h1
  have e2 := conv_src w p2 n d l h2
  have es : strB l = strOfNums (l.map fun b => (b.toNat : Int)) := by
    have : ((fun n : Int => UInt8.ofNat n.toNat) ∘ fun b : UInt8 => (b.toNat : Int)) = id := by funext b; simp
    simp only [strOfNums, strB, List.map_map]
    rw [this, List.map_id]
  rw [es] at e1 e2
  refine (Tryz.bytes_Equal _ _ _ _ w e1 e2).mono ?_
  rintro e w' ⟨rfl, rfl⟩
  exact ⟨by simp, rfl⟩

/-- A set that the store may hold. -/
structure Kept (N : List FileM) : Prop where
  good : goodM N
  len : N.length ≤ 8
  build : buildF N = N
theorem Kept.of {l : List FileM} (h : soundM l = true) : Kept (buildF l) := by
  simp only [soundM, Bool.and_eq_true, decide_eq_true_eq] at h
  have hp := build_perm l h.2.2
  exact ⟨⟨fun f hf => h.2.1 f (hp.mem_iff.1 hf), (hp.map (·.1)).nodup_iff.2 h.2.2⟩, by rw [hp.length_eq]; omega, build_congr hp h.2.2⟩
theorem Kept.sound {N : List FileM} (h : Kept N) : soundM N = true := by simp [soundM, h.good, h.len]
theorem Kept.modest {N : List FileM} (h : Kept N) : Modest N := by have := sound_modest h.sound; rwa [h.build] at this

/-- What a reading of a set's bytes gives. -/
def ReadS (w : World) (N : List FileM) (e : Ending) (w' : World) : Prop :=
  ∃ bn, e = .returned (.tuple #[.map (some bn), .bool true]) ∧ SetAt w' bn N ∧ w.heap.size ≤ bn ∧ Only [] w w'

theorem grow_only {w w' : World} {base : Nat} {v : Value} {l : List FileM} (hown : OwnF w base v l) (hg : w.grownBy w' v.ownBlock) : ∃ S, Only S w w' ∧ ∀ k ∈ S, base ≤ k := by
  rcases hb0 : Value.ownBlock v with _ | g0
  · rw [hb0] at hg
    exact ⟨[], ⟨hg.os, hg.tape, hg.output, hg.size, fun k hk _ => hg.block k hk (by simp)⟩, by simp⟩
  · rw [hb0] at hg
    exact ⟨[g0], ⟨hg.os, hg.tape, hg.output, hg.size, fun k hk hm => hg.block k hk (fun e => by injection e with e; simp at hm; omega)⟩, fun k hk => by simp at hk; rw [hk]; exact (World.ownsRow.lt hown g0 hb0).1⟩
theorem OwnF.keep {w w' : World} {base : Nat} {v : Value} {l : List FileM} {S : List Nat} (h : OwnF w base v l) (hO : Only S w w') (hS : ∀ k ∈ S, k < base) : OwnF w' base v l := by
  refine ⟨h.1, ?_⟩
  rcases h.2 with hn | ⟨g, cap, cur, rfl, hb, hg, rest⟩
  · exact .inl hn
  · exact .inr ⟨g, cap, cur, rfl, hb, (hO.block g (IsBlk.lt hg) (fun hm => by have := hS g hm; omega)).trans hg, rest⟩

set_option maxHeartbeats 8000000 in
theorem readWhole_any (w : World) (b o cap : Nat) (N : List FileM) (hN : Kept N) (h : Src w (some ⟨b, o, none⟩) (setB N).length (setB N)) (hb : b < w.heap.size) (hc : (setB N).length ≤ cap) :
    Calls Tryz.prog 33 #[.slice (some ⟨b, o, none⟩) (setB N).length cap] w (ReadS w N) := by
  have H := Lib.hid h
  have HN := Lib.hid hN
  have HM := Lib.hid hN.modest
  have hlN := hN.len
  have hbl : (setB N).length ≤ 100000 := by
    have h1 := hN.modest
    have h2 := flat_len h1.2
    unfold setB
    rw [List.length_append, length_leB]
    omega
  clear h hN
  have hOa := Lib.hid ((Only.refl [] w).alloc (.cells #[.slice (some ⟨b, o, none⟩) (setB N).length cap] 109))
  have HR0 : Hid (RdAt (w.alloc (.cells #[.slice (some ⟨b, o, none⟩) (setB N).length cap] 109)) w.heap.size b (setB N)) := Lib.hid ⟨o, cap, IsBlk.made w _, H.out.more hOa.out, hc, by omega⟩
  go_enter Tryz.func33, Tryz.ntmps33
  go_wp2_with fail
  have hszA : (w.alloc (.cells #[.slice (some ⟨b, o, none⟩) (setB N).length cap] 109)).heap.size = w.heap.size + 1 := by simp
  generalize w.alloc (.cells #[.slice (some ⟨b, o, none⟩) (setB N).length cap] 109) = wA at *
  generalize hq : w.heap.size = q at *
  have Hq := Lib.hid hq
  clear hq
  have e1 := rdnum_any wA q b (leB 1 N.length) (N.flatMap fileB) (by simp [length_leB]) (by have := hbl; unfold setB at this; omega) HR0.out
  rw [length_leB, numB_leB_lt (by omega)] at e1
  refine e1.mono ?_
  rintro e w1 ⟨rfl, hR1, hO1⟩
  have HR1 := Lib.hid hR1
  have HO1 := Lib.hid hO1
  clear e1 hR1 hO1
  go_wp2_with fail
  go_loopw [11, 5] (fun i s5 wr => ∃ j : Nat, j ≤ N.length ∧ i = .int .i64 j ∧ OwnF wr (q + 1) s5 (N.take j) ∧ RdAt wr q b ((N.drop j).flatMap fileB) ∧ Only [q] wA wr) (fun i _ _ => N.length - (intOf i).toNat)
  case atStart => exact ⟨0, by omega, rfl, ⟨rfl, .inl ⟨rfl, rfl⟩⟩, HR1.out, HO1.out⟩
  case round =>
    obtain ⟨j, hj, rfl, hown, hR, hO⟩ := hrel
    have Hown := Lib.hid hown
    have HR := Lib.hid hR
    have HO := Lib.hid hO
    have hszr := hO.size
    clear hown hR hO
    by_cases hlt : j < N.length
    · have hlti : (j : Int) < (N.length : Int) := by omega
      have Htk : Hid (N.take (j + 1) = N.take j ++ [N[j]]) := Lib.hid (by rw [List.take_add_one, List.getElem?_eq_getElem hlt]; rfl)
      have hm := HM.out.2 N[j] (List.getElem_mem hlt)
      have hdr : (N.drop j).flatMap fileB = fileB N[j] ++ (N.drop (j + 1)).flatMap fileB := by rw [List.drop_eq_getElem_cons hlt, List.flatMap_cons]
      have hlen2 : (fileB N[j] ++ (N.drop (j + 1)).flatMap fileB).length ≤ 1000000 := by
        rw [← hdr]
        have := flat_len (F := N.drop j) (fun f hf => HM.out.2 f (List.mem_of_mem_drop hf))
        rw [List.length_drop] at this
        omega
      have HRj : Hid (RdAt wr q b (fileB N[j] ++ (N.drop (j + 1)).flatMap fileB)) := Lib.hid (by rw [← hdr]; exact HR.out)
      clear hdr HR
      generalize N[j] = f at *
      obtain ⟨fn, ft⟩ := f
      simp only at hm
      go_wp2_with fail
      refine (rdfile_any _ q b (fn, ft) _ hm.1 hm.2 hlen2 HRj.out (by omega) (by omega)).mono ?_
      rintro e w2 ⟨rfl, hR2, hO2⟩
      unfold fileV encStr
      simp only
      have HO2 : Hid (Only [q] wA w2) := Lib.hid ((HO.out.trans hO2).into (fun j hj => .inl (by simpa using hj)))
      have HR2 := Lib.hid hR2
      have Hown2 := Lib.hid (Hown.out.keep hO2 (by simp))
      clear hR2 hO2 Hown
      have hOa2 := Lib.hid ((Only.refl [] w2).alloc (.cells #[.string ⟨fn.toArray⟩, .string ⟨ft.toArray⟩] 48))
      have hqb := IsBlk.made w2 (.cells #[.string ⟨fn.toArray⟩, .string ⟨ft.toArray⟩] 48)
      have Hq0 := Lib.hid (hqb.cell 0)
      have Hq1 := Lib.hid (hqb.cell 1)
      have Howa := Lib.hid (Hown2.out.only hOa2.out)
      have hszj : q + 1 ≤ (w2.alloc (.cells #[.string ⟨fn.toArray⟩, .string ⟨ft.toArray⟩] 48)).heap.size := by have := HO2.out.size; have := hOa2.out.size; omega
      have htl : (N.take j).length ≤ 1000000 := by rw [List.length_take]; omega
      clear hqb
      go_wp2_with (at_builtin; refine wpList_append_f rfl _ _ rfl (q + 1) _ _ rfl Howa.out w2.heap.size 1 (fn, ft) rfl Hq0.out Hq1.out htl hszj ?_; intro v' w4 h4 hg4)
      obtain ⟨S, hS, hSb⟩ := grow_only Howa.out hg4
      have hR4 := (HR2.out.keep hOa2.out (by simp) (by simp)).keep hS (fun hm => by have := hSb q hm; omega) (fun hm => by have := hSb b hm; omega)
      have hO4 : Only [q] wA w4 := ((HO2.out.trans hOa2.out).trans hS).into (fun k hk => by
        simp at hk
        rcases hk with h | h
        · exact .inl (by simpa using h)
        · have := hSb k h; exact .inr (by omega))
      clear hS hSb
      go_roundw
      case rel => exact ⟨j + 1, by omega, by go_num, by rw [Htk.out]; exact h4, hR4, hO4⟩
      case measure => simp [intOf]; omega
    · have hge : ¬ (j : Int) < (N.length : Int) := by omega
      have hown := Hown.out
      rw [List.take_of_length_le (by omega)] at hown
      obtain ⟨aT, cT, rfl, hfT, hbT⟩ := hown.files
      have HfT := Lib.hid hfT
      have HOw : Hid (Only [] w wr) := Lib.hid ((hOa.out.trans HO.out).into (fun k hk => by simp at hk; have := Hq.out; exact .inr (by omega)))
      clear hown hfT hbT Hown
      go_wp2_with fail
      refine (setOf_any _ aT _ cT N HfT.out (fun f hf => by have := HM.out.2 f hf; unfold maxLen; omega) (by unfold maxLen; omega)).mono ?_
      rintro e w5 ⟨hyes, hno, hO5⟩
      obtain ⟨bn, rfl, hset, hbn⟩ := hyes HN.out.sound
      rw [HN.out.build] at hset
      have HO5 := Lib.hid (HOw.out.plus hO5)
      have Hset := Lib.hid hset
      have hqb : q ≤ bn := by have := HOw.out.size; have := Hq.out; omega
      clear hyes hno hO5 hset
      go_wp2_with fail
      refine (whole_any _ bn N Hset.out HM.out).mono ?_
      rintro e w6 ⟨v6, rfl, hv6, hO6⟩
      obtain ⟨a6, c6, rfl, hs6, hn6, -⟩ := OwnB.shape hv6
      have Hs6 := Lib.hid hs6
      have HO6 := Lib.hid (HO5.out.plus hO6)
      have Hset6 := Lib.hid (Hset.out.more hO6)
      clear hv6 hs6 hn6 hO6 Hset
      go_wp2_with fail
      refine (equal_same _ a6 _ _ c6 cap (setB N) Hs6.out (H.out.more HO6.out)).mono ?_
      rintro e w' ⟨rfl, rfl⟩
      go_wp2
      go_ret2
      exact ⟨bn, rfl, Hset6.out, by have := Hq.out; omega, HO6.out⟩

end Go.Proofs.YtfampoblcielpaaGreat
namespace Go.Proofs.YtfampoblcielpaaGreat
set_option maxRecDepth 100000
set_option linter.unusedVariables false
open Go.RowKit Go.Sort Go.Maps

theorem clone_any (w : World) (b : Nat) (F : List FileM) (h : SetAt w b F) :
    Calls Tryz.prog 53 #[.map (some b)] w fun e w' => e = .returned (.map (some w.heap.size)) ∧ SetAt w' w.heap.size F ∧ Only [] w w' := by
  refine (AnyW.maps_Clone_owns Tryz.cloneA 9 RF b F.length (setD F) w h).mono ?_
  rintro e w' ⟨rfl, h1, -, hB⟩
  exact ⟨rfl, h1, ⟨hB.os, hB.tape, hB.output, hB.size, fun k hk _ => hB.block k hk⟩⟩

/-- A change that makes a file. -/
def chgB (f : FileM) : List UInt8 := leB 1 1 ++ fileB f
theorem get_own : ∀ {N : List FileM} {f : FileM}, (N.map (·.1)).Nodup → f ∈ N → getS f.1 N = some f
  | [], f, _, h => by cases h
  | g :: r, f, hn, h => by
    rw [List.map_cons, List.nodup_cons] at hn
    unfold getS
    rw [List.find?_cons]
    rcases List.mem_cons.1 h with rfl | h
    · simp
    · have hne : g.1 ≠ f.1 := fun e => hn.1 (List.mem_map.2 ⟨f, h, e.symm⟩)
      have := get_own hn.2 h
      unfold getS at this
      have hbf : (g.1 == f.1) = false := by simpa using hne
      rw [hbf]
      exact this
theorem chgL_none {N : List FileM} (hn : (N.map (·.1)).Nodup) (hne : ∀ f ∈ N, 0 < f.1.length) : chgL [] N (N.map (·.1)) = N.map chgB := by
  have key : ∀ M : List FileM, (∀ f ∈ M, f ∈ N) → (M.map (·.1)).filterMap (chgE [] N) = M.map chgB := by
    intro M
    induction M with
    | nil => simp
    | cons f r ih =>
      intro hM
      have hf := hM f (by simp)
      have hg := get_own hn hf
      have h0 := hne f hf
      have e1 : chgE [] N f.1 = some (chgB f) := by
        have ha : atF f.1 N = f := by unfold atF; rw [hg]; rfl
        have hb : atF f.1 [] = ([], []) := rfl
        have hab : f ≠ ([], []) := fun e => by rw [e] at h0; simp at h0
        unfold chgE
        rw [ha, hb, if_neg hab, hg]
        rfl
      rw [List.map_cons, List.filterMap_cons, e1, ih (fun g hg => hM g (by simp [hg]))]
      rfl
  exact key N (fun f h => h)
theorem changeB_none {N : List FileM} (hn : (N.map (·.1)).Nodup) (hne : ∀ f ∈ N, 0 < f.1.length) : changeB [] N (N.map (·.1)) = leB 1 N.length ++ N.flatMap chgB := by
  unfold changeB
  rw [chgL_none hn hne, List.length_map, List.flatMap_def]
theorem chg_len {F : List FileM} (h : ∀ f ∈ F, f.1.length ≤ 255 ∧ f.2.length ≤ 3000) : (F.flatMap chgB).length ≤ 3301 * F.length := by
  induction F with
  | nil => simp
  | cons f r ih =>
    have h1 := h f (by simp)
    have h2 := ih (fun g hg => h g (by simp [hg]))
    rw [List.flatMap_cons, List.length_append, List.length_cons]
    unfold chgB
    rw [List.length_append, length_leB, length_fileB]
    unfold chgB at h2
    omega
theorem Kept.pos {N : List FileM} (h : Kept N) : ∀ f ∈ N, 0 < f.1.length := fun f hf => by
  have := (h.good.1 f hf).1
  simp only [nameM, Bool.and_eq_true, decide_eq_true_eq] at this
  omega
theorem Kept.take {N : List FileM} (h : Kept N) (j : Nat) : ((N.take j).map (·.1)).Nodup := by
  rw [List.map_take]
  exact h.good.2.sublist (List.take_sublist _ _)

set_option maxHeartbeats 8000000 in
theorem readChange_any (w : World) (m b o cap : Nat) (N : List FileM) (hm : SetAt w m []) (hN : Kept N) (h : Src w (some ⟨b, o, none⟩) (changeB [] N (N.map (·.1))).length (changeB [] N (N.map (·.1)))) (hb : b < w.heap.size) (hc : (changeB [] N (N.map (·.1))).length ≤ cap) :
    Calls Tryz.prog 34 #[.map (some m), .slice (some ⟨b, o, none⟩) (changeB [] N (N.map (·.1))).length cap] w (ReadS w N) := by
  have Hm := Lib.hid hm
  have HN := Lib.hid hN
  have HM := Lib.hid hN.modest
  have hlN := hN.len
  have hcb := changeB_none hN.good.2 hN.pos
  have hbl : (leB 1 N.length ++ N.flatMap chgB).length ≤ 100000 := by
    have h2 := chg_len hN.modest.2
    rw [List.length_append, length_leB]
    omega
  have Hcb : Hid (changeB [] N (N.map (·.1)) = leB 1 N.length ++ N.flatMap chgB) := Lib.hid hcb
  rw [hcb] at h hc ⊢
  have H := Lib.hid h
  clear h hN hm hcb
  generalize hB : leB 1 N.length ++ N.flatMap chgB = B at *
  have HB := Lib.hid hB
  clear hB
  have hOa := Lib.hid ((Only.refl [] w).alloc (.cells #[.slice (some ⟨b, o, none⟩) B.length cap] 109))
  have HR0 : Hid (RdAt (w.alloc (.cells #[.slice (some ⟨b, o, none⟩) B.length cap] 109)) w.heap.size b B) := Lib.hid ⟨o, cap, IsBlk.made w _, H.out.more hOa.out, hc, by omega⟩
  have hml := Hm.out.lt
  go_enter Tryz.func34, Tryz.ntmps34
  go_wp2_with fail
  have hszA : (w.alloc (.cells #[.slice (some ⟨b, o, none⟩) B.length cap] 109)).heap.size = w.heap.size + 1 := by simp
  generalize w.alloc (.cells #[.slice (some ⟨b, o, none⟩) B.length cap] 109) = wA at *
  generalize hq : w.heap.size = q at *
  have Hq := Lib.hid hq
  clear hq
  refine (clone_any _ m [] (Hm.out.more hOa.out)).mono ?_
  rintro e w0 ⟨rfl, hc0, hO0⟩
  have HO0 := Lib.hid hO0
  have HR00 := Lib.hid (HR0.out.keep hO0 (by simp) (by simp))
  have Hc0 := Lib.hid hc0
  have hcl := hc0.lt
  clear hO0 HR0 hc0
  generalize hcc : wA.heap.size = c at *
  have HOw0 := Lib.hid (hOa.out.plus HO0.out)
  have hqc : q < c := by omega
  clear hcc hszA
  go_wp2_with fail
  have e1 := rdnum_any w0 q b (leB 1 N.length) (N.flatMap chgB) (by simp [length_leB]) (by rw [HB.out]; omega) (by rw [HB.out]; exact HR00.out)
  rw [length_leB, numB_leB_lt (by omega)] at e1
  refine e1.mono ?_
  rintro e w1 ⟨rfl, hR1, hO1⟩
  have HR1 := Lib.hid hR1
  have Hc1 := Lib.hid (Hc0.out.keep hO1 (by simp; omega))
  have HO1 : Hid (Only [q, c] w0 w1) := Lib.hid (hO1.into (fun k hk => .inl (by simp at hk ⊢; omega)))
  clear e1 hR1 hO1 Hc0 HR00
  go_wp2_with fail
  go_loopw [16] (fun i wr => ∃ j : Nat, j ≤ N.length ∧ i = .int .i64 j ∧ SetAt wr c (buildF (N.take j)) ∧ RdAt wr q b ((N.drop j).flatMap chgB) ∧ Only [q, c] w0 wr) (fun i _ => N.length - (intOf i).toNat)
  case atStart => exact ⟨0, by omega, rfl, Hc1.out, HR1.out, HO1.out⟩
  case round =>
    obtain ⟨j, hj, rfl, hset, hR, hO⟩ := hrel
    have Hset := Lib.hid hset
    have HR := Lib.hid hR
    have HO := Lib.hid hO
    have hszr := hO.size
    clear hset hR hO
    by_cases hlt : j < N.length
    · have hlti : (j : Int) < (N.length : Int) := by omega
      have Htk : Hid (N.take (j + 1) = N.take j ++ [N[j]]) := Lib.hid (by rw [List.take_add_one, List.getElem?_eq_getElem hlt]; rfl)
      have hm := HM.out.2 N[j] (List.getElem_mem hlt)
      have hdr : (N.drop j).flatMap chgB = leB 1 1 ++ (fileB N[j] ++ (N.drop (j + 1)).flatMap chgB) := by rw [List.drop_eq_getElem_cons hlt, List.flatMap_cons]; unfold chgB; rw [List.append_assoc]
      have hlen2 : (leB 1 1 ++ (fileB N[j] ++ (N.drop (j + 1)).flatMap chgB)).length ≤ 1000000 := by
        rw [← hdr]
        have := chg_len (F := N.drop j) (fun f hf => HM.out.2 f (List.mem_of_mem_drop hf))
        rw [List.length_drop] at this
        omega
      have hlen3 : (fileB N[j] ++ (N.drop (j + 1)).flatMap chgB).length ≤ 1000000 := by rw [List.length_append] at hlen2; omega
      have HRj : Hid (RdAt wr q b (leB 1 1 ++ (fileB N[j] ++ (N.drop (j + 1)).flatMap chgB))) := Lib.hid (by rw [← hdr]; exact HR.out)
      have hbld : (buildF (N.take j)).length < maxLen := by rw [(build_perm _ (HN.out.take j)).length_eq, List.length_take]; unfold maxLen; omega
      clear hdr HR
      generalize N[j] = f at *
      obtain ⟨fn, ft⟩ := f
      simp only at hm
      have e2 := rdnum_any wr q b (leB 1 1) _ (by simp [length_leB]) hlen2 HRj.out
      rw [length_leB, numB_leB_lt (by omega)] at e2
      go_wp2_with fail
      refine e2.mono ?_
      rintro e w2 ⟨rfl, hR2, hO2⟩
      have HO2 : Hid (Only [q, c] w0 w2) := Lib.hid ((HO.out.trans hO2).into (fun k hk => .inl (by simp at hk ⊢; omega)))
      have HR2 := Lib.hid hR2
      have Hset2 := Lib.hid (Hset.out.keep hO2 (by simp; omega))
      have hsz2 := hO2.size
      clear hR2 hO2 Hset e2
      go_wp2_with fail
      refine (rdfile_any _ q b (fn, ft) _ hm.1 hm.2 hlen3 HR2.out (by omega) (by omega)).mono ?_
      rintro e w3 ⟨rfl, hR3, hO3⟩
      unfold fileV encStr
      simp only
      have HO3 : Hid (Only [q, c] w0 w3) := Lib.hid ((HO2.out.trans hO3).into (fun k hk => .inl (by simp at hk ⊢; omega)))
      have HR3 := Lib.hid hR3
      have Hset3 := Lib.hid (Hset2.out.keep hO3 (by simp; omega))
      clear hR3 hO3 Hset2
      have hOa3 := Lib.hid ((Only.refl [] w3).alloc (.cells #[.string ⟨fn.toArray⟩, .string ⟨ft.toArray⟩] 48))
      have hqb := IsBlk.made w3 (.cells #[.string ⟨fn.toArray⟩, .string ⟨ft.toArray⟩] 48)
      have Hq0 : Hid ((w3.alloc (.cells #[.string ⟨fn.toArray⟩, .string ⟨ft.toArray⟩] 48)).cell? ⟨w3.heap.size, 0, none⟩ = some (.string ⟨fn.toArray⟩)) := Lib.hid (hqb.cell 0)
      have Hq1 : Hid ((w3.alloc (.cells #[.string ⟨fn.toArray⟩, .string ⟨ft.toArray⟩] 48)).cell? ⟨w3.heap.size, 1, none⟩ = some (.string ⟨ft.toArray⟩)) := Lib.hid (hqb.cell 1)
      have Hset4 := Lib.hid (Hset3.out.more hOa3.out)
      have HR4 := Lib.hid (HR3.out.keep hOa3.out (by simp) (by simp))
      have HO4 : Hid (Only [q, c] w0 (w3.alloc (.cells #[.string ⟨fn.toArray⟩, .string ⟨ft.toArray⟩] 48))) := Lib.hid ((HO3.out.trans hOa3.out).into (fun k hk => .inl (by simpa using hk)))
      clear hqb hOa3 HR3 HO3 Hset3
      have hfnm : fn.length ≤ maxLen := by unfold maxLen; omega
      go_wp2_with (refine wpList_mapUpdate_own _ rfl _ _ _ _ rfl 9 48 (string_keyed Tryz.underlying9) Tryz.underlying57 RF c _ _ rfl Hset4.out hbld (encStr fn) (fileV (fn, ft)) (.string fn) rfl rfl (key_str hfnm) (fileD (fn, ft)) [] (RF_file _) ?_; intro W5 h5 hg5)
      have hO5 : Only [c] _ W5 := ⟨hg5.os, hg5.tape, hg5.output, hg5.size, fun k hk hm => hg5.block k hk (fun e => by injection e with e; simp at hm; omega)⟩
      have hR5 := HR4.out.keep hO5 (by simp; omega) (by simp; omega)
      have hO6 : Only [q, c] w0 W5 := (HO4.out.trans hO5).into (fun k hk => .inl (by simp at hk ⊢; omega))
      go_roundw
      case rel =>
        refine ⟨j + 1, by omega, by go_num, ?_, hR5, hO6⟩
        rw [Htk.out, build_snoc]
        have := put_setD (fn, ft) (buildF (N.take j))
        simp only at this
        rw [this] at h5
        exact SetAt.tight h5
      case measure => simp [intOf]; omega
    · have hge : ¬ (j : Int) < (N.length : Int) := by omega
      have hset := Hset.out
      rw [List.take_of_length_le (by omega), HN.out.build] at hset
      have HOw : Hid (Only [] w wr) := Lib.hid ((HOw0.out.trans HO.out).into (fun k hk => by simp at hk; have := Hq.out; exact .inr (by omega)))
      have HsN := Lib.hid hset
      clear hset Hset
      go_wp2_with fail
      refine (list_any _ c N HsN.out (by omega)).mono ?_
      rintro e w5 ⟨v5, rfl, hv5, hO5⟩
      obtain ⟨aT, cT, rfl, hfT, hbT⟩ := hv5.files
      have HfT := Lib.hid hfT
      have HO5 := Lib.hid (HOw.out.plus hO5)
      clear hv5 hfT hbT hO5
      go_wp2_with fail
      refine (setOf_any _ aT _ cT N HfT.out (fun f hf => by have := HM.out.2 f hf; unfold maxLen; omega) (by unfold maxLen; omega)).mono ?_
      rintro e w6 ⟨hyes, hno, hO6⟩
      obtain ⟨bn, rfl, hset, hbn⟩ := hyes HN.out.sound
      rw [HN.out.build] at hset
      have HO6 := Lib.hid (HO5.out.plus hO6)
      have Hset := Lib.hid hset
      have hqb : q ≤ bn := by have := HO5.out.size; have := Hq.out; omega
      clear hyes hno hO6 hset
      go_wp2_with fail
      refine (change_any _ bn m [] N (Hm.out.more HO6.out) Hset.out rfl HM.out).mono ?_
      rintro e w7 ⟨v7, rfl, hv7, hO7⟩
      rw [Hcb.out] at hv7
      obtain ⟨a7, c7, rfl, hs7, hn7, -⟩ := OwnB.shape hv7
      have Hs7 := Lib.hid hs7
      have HO7 := Lib.hid (HO6.out.plus hO7)
      have Hset7 := Lib.hid (Hset.out.more hO7)
      clear hv7 hs7 hn7 hO7 Hset
      go_wp2_with fail
      refine (equal_same _ a7 _ _ c7 cap B Hs7.out (H.out.more HO7.out)).mono ?_
      rintro e w' ⟨rfl, rfl⟩
      go_wp2
      go_ret2
      exact ⟨bn, rfl, Hset7.out, by have := Hq.out; omega, HO7.out⟩

end Go.Proofs.YtfampoblcielpaaGreat
