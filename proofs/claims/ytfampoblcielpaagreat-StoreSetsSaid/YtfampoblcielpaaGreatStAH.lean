/-
  A change between any two sets, read (readChange).
-/
import Derived.Test.YtfampoblcielpaaGreatStAD
namespace Go.Proofs.YtfampoblcielpaaGreat
set_option maxRecDepth 100000
set_option linter.unusedVariables false
open Go.RowKit Go.Sort Go.Maps

/-- Of a row in order what is kept rises, and has each of its elements. -/
theorem compact_upTo (zs : List (List UInt8)) (hs : zs.Pairwise (· ≤ ·)) : ∀ m, m ≤ zs.length →
    (Lib.compactUpTo zs.toArray m).Pairwise (· < ·) ∧ (∀ x, x ∈ Lib.compactUpTo zs.toArray m ↔ x ∈ zs.take m) := by
  intro m
  induction m with
  | zero => intro _; exact ⟨by simp [Lib.compactUpTo], by simp [Lib.compactUpTo]⟩
  | succ m ih =>
    intro hm
    obtain ⟨h1, h2⟩ := ih (by omega)
    have hlt : m < zs.length := by omega
    have em : zs.toArray[m]! = zs[m] := by rw [getElem!_pos zs.toArray m (by simpa using hlt)]; simp
    have htk : zs.take (m + 1) = zs.take m ++ [zs[m]] := by rw [List.take_add_one, List.getElem?_eq_getElem hlt]; rfl
    rw [Lib.compactUpTo_succ]
    by_cases hk : Lib.keeps zs.toArray m = true
    · rw [if_pos hk, em]
      refine ⟨List.pairwise_append.2 ⟨h1, by simp, fun x hx y hy => ?_⟩, fun x => ?_⟩
      · simp at hy
        subst hy
        have hx' := (h2 x).1 hx
        have hle : x ≤ zs[m] := by
          obtain ⟨i, hi, rfl⟩ := List.mem_take_iff_getElem.1 hx'
          exact List.pairwise_iff_getElem.1 hs i m (by omega) hlt (by omega)
        apply List.not_le.1
        intro hge
        have e : x = zs[m] := List.le_antisymm hle hge
        -- the one ahead is the same
        have hm0 : m ≠ 0 := fun e0 => by subst e0; simp at hx'
        obtain ⟨i, hi, ei⟩ := List.mem_take_iff_getElem.1 hx'
        have hle2 : x ≤ zs[m - 1] := by
          rw [← ei]
          by_cases h : i = m - 1
          · subst h; exact List.le_refl _
          · exact List.pairwise_iff_getElem.1 hs i (m - 1) (by omega) (by omega) (by omega)
        have hle3 : zs[m - 1] ≤ zs[m] := List.pairwise_iff_getElem.1 hs (m - 1) m (by omega) hlt (by omega)
        have e2 : zs[m - 1] = zs[m] := List.le_antisymm hle3 (by rw [← e]; exact hle2)
        simp only [Lib.keeps, decide_eq_true_eq] at hk
        rcases hk with hk | hk
        · exact hm0 hk
        · have em1 : zs.toArray[m - 1]! = zs[m - 1] := by rw [getElem!_pos zs.toArray (m - 1) (by simp; omega)]; simp
          rw [em, em1] at hk
          exact hk e2.symm
      · rw [List.mem_append, htk, List.mem_append, h2 x]
    · rw [if_neg hk, List.append_nil]
      refine ⟨h1, fun x => ?_⟩
      rw [h2 x, htk, List.mem_append]
      constructor
      · exact fun h => .inl h
      · rintro (h | h)
        · exact h
        · simp at h
          subst h
          simp only [Lib.keeps, decide_eq_true_eq, not_or, Decidable.not_not] at hk
          obtain ⟨hm0, hk⟩ := hk
          have em1 : zs.toArray[m - 1]! = zs[m - 1] := by rw [getElem!_pos zs.toArray (m - 1) (by simp; omega)]; simp
          rw [em, em1] at hk
          rw [hk]
          exact List.mem_take_iff_getElem.2 ⟨m - 1, by omega, rfl⟩
theorem namesM_rise (Fs : List (List FileM)) : (namesM Fs).Pairwise (· < ·) ∧ ∀ x, x ∈ namesM Fs ↔ x ∈ namesL Fs := by
  have hs : ((namesL Fs).mergeSort fun x y => decide (x ≤ y)).Pairwise (· ≤ ·) := by
    have := List.pairwise_mergeSort (le := fun x y : List UInt8 => decide (x ≤ y)) (fun a b c h1 h2 => by
      simp only [decide_eq_true_eq] at *; exact List.le_trans h1 h2) (fun a b => by
      simp only [Bool.or_eq_true, decide_eq_true_eq]; exact List.le_total a b) (namesL Fs)
    exact this.imp (fun h => by simpa using h)
  obtain ⟨h1, h2⟩ := compact_upTo _ hs _ (Nat.le_refl _)
  refine ⟨h1, fun x => ?_⟩
  have := h2 x
  rw [List.take_length, List.mem_mergeSort] at this
  exact this
theorem namesM_nodup (Fs : List (List FileM)) : (namesM Fs).Nodup := (namesM_rise Fs).1.imp (fun h e => by subst e; exact List.lt_irrefl _ h)

/-- One change, carried out on a set. -/
def stepF (N : List FileM) (R : List FileM) (n : List UInt8) : List FileM := if (getS n N).isSome then putS (atF n N) R else delS n R
/-- The names that a change tells of. -/
def toldC (G N : List FileM) (ns : List (List UInt8)) : List (List UInt8) := ns.filter fun n => (chgE G N n).isSome
theorem mem_putS (g : FileM) (F : List FileM) (f : FileM) : f ∈ putS g F ↔ f = g ∨ (f ∈ F ∧ f.1 ≠ g.1) := by
  unfold putS
  rw [(ins_perm g (delS g.1 F)).mem_iff, List.mem_cons]
  simp [delS]
theorem mem_delS (n : List UInt8) (F : List FileM) (f : FileM) : f ∈ delS n F ↔ f ∈ F ∧ f.1 ≠ n := by simp [delS]
theorem getS_some {n : List UInt8} {N : List FileM} (h : (getS n N).isSome = true) : atF n N ∈ N ∧ (atF n N).1 = n := by
  obtain ⟨g, hg⟩ := Option.isSome_iff_exists.1 h
  have h3 : atF n N = g := by unfold atF; rw [hg]; rfl
  rw [h3]
  exact ⟨List.mem_of_find?_eq_some hg, get_name hg⟩
theorem getS_none {n : List UInt8} {N : List FileM} (h : (getS n N).isSome = false) : ∀ f ∈ N, f.1 ≠ n := by
  intro f hf e
  have : getS n N = none := by simpa using h
  unfold getS at this
  have := List.find?_eq_none.1 this f hf
  simp [e] at this
/-- What is there when changes have been carried out. -/
theorem mem_steps (N : List FileM) (hN : (N.map (·.1)).Nodup) (f : FileM) : ∀ (ns : List (List UInt8)) (R : List FileM), f ∈ ns.foldl (stepF N) R ↔ (f.1 ∈ ns ∧ f ∈ N) ∨ (f.1 ∉ ns ∧ f ∈ R) := by
  intro ns
  induction ns with
  | nil => intro R; simp
  | cons n r ih =>
    intro R
    rw [List.foldl_cons, ih]
    have hstep : f ∈ stepF N R n ↔ (f.1 = n ∧ f ∈ N) ∨ (f.1 ≠ n ∧ f ∈ R) := by
      unfold stepF
      cases hs : (getS n N).isSome with
      | true =>
        obtain ⟨h1, h2⟩ := getS_some hs
        rw [if_pos rfl, mem_putS, h2]
        constructor
        · rintro (h | ⟨h, hn⟩)
          · exact .inl ⟨by rw [h]; exact h2, by rw [h]; exact h1⟩
          · exact .inr ⟨hn, h⟩
        · rintro (⟨hn, hf⟩ | ⟨hn, hf⟩)
          · left
            have a1 := get_own hN hf
            have a2 := get_own hN h1
            rw [h2] at a2
            rw [hn] at a1
            rw [a1] at a2
            injection a2
          · exact .inr ⟨hf, hn⟩
      | false =>
        rw [if_neg (by simp), mem_delS]
        have h0 := getS_none hs
        constructor
        · rintro ⟨h, hn⟩; exact .inr ⟨hn, h⟩
        · rintro (⟨hn, hf⟩ | ⟨hn, hf⟩)
          · exact absurd hn (h0 f hf)
          · exact ⟨hf, hn⟩
    rw [hstep, List.mem_cons]
    constructor
    · rintro (⟨h1, h2⟩ | ⟨h1, ⟨h2, h3⟩ | ⟨h2, h3⟩⟩)
      · exact .inl ⟨.inr h1, h2⟩
      · exact .inl ⟨.inl h2, h3⟩
      · exact .inr ⟨fun h => h.elim h2 h1, h3⟩
    · rintro (⟨h1, h2⟩ | ⟨h1, h2⟩)
      · by_cases hr : f.1 ∈ r
        · exact .inl ⟨hr, h2⟩
        · exact .inr ⟨hr, .inl ⟨h1.resolve_right hr, h2⟩⟩
      · exact .inr ⟨fun h => h1 (.inr h), .inr ⟨fun h => h1 (.inl h), h2⟩⟩
/-- The changes from G to N make N of G. -/
theorem steps_all {G N : List FileM} (hG : Kept G) (hN : Kept N) (f : FileM) : f ∈ (toldC G N (namesM [G, N])).foldl (stepF N) G ↔ f ∈ N := by
  rw [mem_steps N hN.good.2]
  have hnm : ∀ x, x ∈ namesM [G, N] ↔ x ∈ G.map (·.1) ∨ x ∈ N.map (·.1) := fun x => by
    rw [(namesM_rise [G, N]).2 x]
    simp only [namesL, List.flatMap_cons, List.flatMap_nil, List.append_nil, List.mem_append]
  have htold : ∀ x, x ∈ toldC G N (namesM [G, N]) ↔ x ∈ namesM [G, N] ∧ atF x N ≠ atF x G := fun x => by
    simp only [toldC, List.mem_filter]
    have : (chgE G N x).isSome = true ↔ atF x N ≠ atF x G := by
      unfold chgE
      split
      · rename_i h; simp [h]
      · rename_i h; simp [h]
    rw [this]
  have hat : ∀ {M : List FileM} {g : FileM}, (M.map (·.1)).Nodup → g ∈ M → atF g.1 M = g := fun hn hg => by unfold atF; rw [get_own hn hg]; rfl
  constructor
  · rintro (⟨-, h⟩ | ⟨h1, h2⟩)
    · exact h
    · rw [htold] at h1
      have h3 : atF f.1 N = atF f.1 G := by
        by_cases h : atF f.1 N = atF f.1 G
        · exact h
        · exact absurd ⟨(hnm f.1).2 (.inl (List.mem_map.2 ⟨f, h2, rfl⟩)), h⟩ h1
      rw [hat hG.good.2 h2] at h3
      cases hs : (getS f.1 N).isSome with
      | true => have := (getS_some hs).1; rwa [h3] at this
      | false =>
        have h4 : atF f.1 N = ([], []) := by
          have : getS f.1 N = none := by simpa using hs
          unfold atF; rw [this]; rfl
        rw [h4] at h3
        have := hG.pos f h2
        rw [← h3] at this
        simp at this
  · intro h
    by_cases ht : f.1 ∈ toldC G N (namesM [G, N])
    · exact .inl ⟨ht, h⟩
    · refine .inr ⟨ht, ?_⟩
      rw [htold] at ht
      have h3 : atF f.1 N = atF f.1 G := by
        by_cases h' : atF f.1 N = atF f.1 G
        · exact h'
        · exact absurd ⟨(hnm f.1).2 (.inr (List.mem_map.2 ⟨f, h, rfl⟩)), h'⟩ ht
      rw [hat hN.good.2 h] at h3
      cases hs : (getS f.1 G).isSome with
      | true => have := (getS_some hs).1; rwa [← h3] at this
      | false =>
        have h4 : atF f.1 G = ([], []) := by
          have : getS f.1 G = none := by simpa using hs
          unfold atF; rw [this]; rfl
        rw [h4] at h3
        have := hN.pos f h
        rw [h3] at this
        simp at this

end Go.Proofs.YtfampoblcielpaaGreat
namespace Go.Proofs.YtfampoblcielpaaGreat
set_option maxRecDepth 100000
set_option linter.unusedVariables false
open Go.RowKit Go.Sort Go.Maps

/-- A change's bytes. -/
def entC (N : List FileM) (n : List UInt8) : List UInt8 := if (getS n N).isSome then leB 1 1 ++ fileB (atF n N) else leB 1 0 ++ (leB 1 n.length ++ n)
theorem chgL_told (G N : List FileM) : ∀ ns : List (List UInt8), chgL G N ns = (toldC G N ns).map (entC N)
  | [] => rfl
  | n :: r => by
    have ih := chgL_told G N r
    unfold chgL toldC at ih ⊢
    rw [List.filterMap_cons, List.filter_cons]
    cases hc : chgE G N n with
    | none => simp only [Option.isSome_none, Bool.false_eq_true, if_false]; exact ih
    | some x =>
      simp only [Option.isSome_some, if_true, List.map_cons, ih]
      congr 1
      unfold chgE at hc
      split at hc
      · cases hc
      · injection hc with hc
        rw [← hc]
        rfl
theorem changeB_told (G N : List FileM) (ns : List (List UInt8)) : changeB G N ns = leB 1 (toldC G N ns).length ++ (toldC G N ns).flatMap (entC N) := by
  unfold changeB
  rw [chgL_told, List.length_map, List.flatMap_def]
theorem told_len {G N : List FileM} (hG : Kept G) (hN : Kept N) : (toldC G N (namesM [G, N])).length ≤ 16 := by
  have h0 : (toldC G N (namesM [G, N])).length ≤ (namesM [G, N]).length := List.length_filter_le _ _
  have := namesM_len [G, N]
  have h1 := hG.len
  have h2 := hN.len
  simp [namesL] at this
  omega
theorem told_short {G N : List FileM} (hG : Kept G) (hN : Kept N) : ∀ n ∈ toldC G N (namesM [G, N]), n.length ≤ 12 := fun n hn => by
  have := namesM_mem (List.mem_filter.1 hn).1
  simp only [namesL, List.flatMap_cons, List.flatMap_nil, List.append_nil, List.mem_append, List.mem_map] at this
  rcases this with ⟨f, hf, rfl⟩ | ⟨f, hf, rfl⟩
  · exact hG.short f hf
  · exact hN.short f hf
theorem ent_flat {N : List FileM} (hF : ∀ f ∈ N, f.1.length ≤ 255 ∧ f.2.length ≤ 3000) : ∀ U : List (List UInt8), (∀ n ∈ U, n.length ≤ 12) → (U.flatMap (entC N)).length ≤ 3290 * U.length
  | [], _ => by simp
  | n :: r, h => by
    have ih := ent_flat hF r (fun m hm => h m (by simp [hm]))
    have hn := h n (by simp)
    rw [List.flatMap_cons, List.length_append, List.length_cons]
    have : (entC N n).length ≤ 3290 := by
      unfold entC
      split
      · rename_i hs
        have h1 := hF _ (getS_some hs).1
        rw [List.length_append, length_leB, length_fileB]
        omega
      · rw [List.length_append, List.length_append, length_leB, length_leB]
        omega
    omega
theorem length_put (f : FileM) (F : List FileM) : (putS f F).length ≤ F.length + 1 := by
  unfold putS
  rw [(ins_perm f (delS f.1 F)).length_eq, List.length_cons]
  have : (delS f.1 F).length ≤ F.length := List.length_filter_le _ _
  omega
theorem steps_len (N : List FileM) : ∀ (T : List (List UInt8)) (R : List FileM), (T.foldl (stepF N) R).length ≤ R.length + T.length
  | [], R => by simp
  | n :: r, R => by
    have ih := steps_len N r (stepF N R n)
    rw [List.foldl_cons, List.length_cons]
    have : (stepF N R n).length ≤ R.length + 1 := by
      unfold stepF
      split
      · exact length_put _ _
      · have : (delS n R).length ≤ R.length := List.length_filter_le _ _
        omega
    omega
theorem Rise.nodup {F : List FileM} (h : Rise F) : F.Nodup := by
  exact h.imp (fun hab e => by subst e; exact List.lt_irrefl _ (before_lt hab))
theorem Kept.rise {N : List FileM} (h : Kept N) : Rise N := by
  have := rise_build N h.good.2
  rwa [h.build] at this
theorem steps_eq {F G N : List FileM} (hG : Kept G) (hN : Kept N) (hR : Rise F) (he : F = (toldC G N (namesM [G, N])).foldl (stepF N) G) : F = N := by
  have hmem : ∀ f, f ∈ F ↔ f ∈ N := fun f => by rw [he]; exact steps_all hG hN f
  have hp : F.Perm N := (List.perm_ext_iff_of_nodup hR.nodup hN.rise.nodup).2 hmem
  exact sub_eq _ _ hR hN.rise (fun x hx => (hmem x).1 hx) hp.length_eq

set_option maxHeartbeats 8000000 in
theorem readChange_gen (w : World) (m b o cap : Nat) (G N : List FileM) (hm : SetAt w m G) (hG : Kept G) (hN : Kept N) (h : Src w (some ⟨b, o, none⟩) (changeB G N (namesM [G, N])).length (changeB G N (namesM [G, N]))) (hb : b < w.heap.size) (hc : (changeB G N (namesM [G, N])).length ≤ cap) :
    Calls Tryz.prog 34 #[.map (some m), .slice (some ⟨b, o, none⟩) (changeB G N (namesM [G, N])).length cap] w (ReadS w N) := by
  have Hm := Lib.hid hm
  have HG := Lib.hid hG
  have HN := Lib.hid hN
  have HM := Lib.hid hN.modest
  have hlN := hN.len
  have hlG := hG.len
  have hcb := changeB_told G N (namesM [G, N])
  have hT16 := told_len hG hN
  have hshort := told_short hG hN
  have hend := fun F => steps_eq (F := F) hG hN
  have hlen := steps_len N (toldC G N (namesM [G, N])) G
  have Hcb : Hid (changeB G N (namesM [G, N]) = leB 1 (toldC G N (namesM [G, N])).length ++ (toldC G N (namesM [G, N])).flatMap (entC N)) := Lib.hid hcb
  rw [hcb] at h hc ⊢
  generalize toldC G N (namesM [G, N]) = T at *
  have hflat : ∀ U : List (List UInt8), (∀ n ∈ U, n.length ≤ 12) → (U.flatMap (entC N)).length ≤ 3290 * U.length := fun U hU => ent_flat hN.modest.2 U hU
  have Hflat := Lib.hid hflat
  have Hshort := Lib.hid hshort
  have Hend := Lib.hid hend
  have Hlen := Lib.hid hlen
  have hbl : (leB 1 T.length ++ T.flatMap (entC N)).length ≤ 100000 := by
    have := hflat T hshort
    rw [List.length_append, length_leB]
    have : 3290 * T.length ≤ 3290 * 16 := Nat.mul_le_mul_left _ hT16
    omega
  have H := Lib.hid h
  clear h hN hG hm hcb hflat hshort hend hlen
  generalize hB : leB 1 T.length ++ T.flatMap (entC N) = B at *
  have HB := Lib.hid hB
  clear hB
  have hOa := Lib.hid ((Only.refl [] w).alloc (.cells #[.slice (some ⟨b, o, none⟩) B.length cap] 109))
  have HR0 : Hid (RdAt (w.alloc (.cells #[.slice (some ⟨b, o, none⟩) B.length cap] 109)) w.heap.size b B) := Lib.hid ⟨o, cap, IsBlk.made w _, H.out.more hOa.out, hc, by omega⟩
  have hml := Hm.out.lt
  go_enter Tryz.func34, Tryz.ntmps34
  go_wp2_with fail
  have hszA : (w.alloc (.cells #[.slice (some ⟨b, o, none⟩) B.length cap] 109)).heap.size = w.heap.size + 1 := by simp
  generalize w.alloc (.cells #[.slice (some ⟨b, o, none⟩) B.length cap] 109) = wA at *
  generalize hq : w.heap.size = q at *
  have Hq := Lib.hid hq
  clear hq
  refine (clone_any _ m G (Hm.out.more hOa.out)).mono ?_
  rintro e w0 ⟨rfl, hc0, hO0⟩
  have HO0 := Lib.hid hO0
  have HR00 := Lib.hid (HR0.out.keep hO0 (by simp) (by simp))
  have Hc0 := Lib.hid hc0
  have hcl := hc0.lt
  clear hO0 HR0 hc0
  generalize hcc : wA.heap.size = c at *
  have HOw0 := Lib.hid (hOa.out.plus HO0.out)
  have hqc : q < c := by omega
  clear hcc hszA
  go_wp2_with fail
  have e1 := rdnum_any w0 q b (leB 1 T.length) (T.flatMap (entC N)) (by simp [length_leB]) (by rw [HB.out]; omega) (by rw [HB.out]; exact HR00.out)
  rw [length_leB, numB_leB_lt (by omega)] at e1
  refine e1.mono ?_
  rintro e w1 ⟨rfl, hR1, hO1⟩
  have HR1 := Lib.hid hR1
  have Hc1 := Lib.hid (Hc0.out.keep hO1 (by simp; omega))
  have HO1 : Hid (Only [q, c] w0 w1) := Lib.hid (hO1.into (fun k hk => .inl (by simp at hk ⊢; omega)))
  clear e1 hR1 hO1 Hc0 HR00
  go_wp2_with fail
  go_loopw [16] (fun i wr => ∃ j : Nat, j ≤ T.length ∧ i = .int .i64 j ∧ SetAt wr c ((T.take j).foldl (stepF N) G) ∧ RdAt wr q b ((T.drop j).flatMap (entC N)) ∧ Only [q, c] w0 wr) (fun i _ => T.length - (intOf i).toNat)
  case atStart => exact ⟨0, by omega, rfl, Hc1.out, HR1.out, HO1.out⟩
  case round =>
    obtain ⟨j, hj, rfl, hset, hR, hO⟩ := hrel
    have Hset := Lib.hid hset
    have HR := Lib.hid hR
    have HO := Lib.hid hO
    have hszr := hO.size
    clear hset hR hO
    by_cases hlt : j < T.length
    · have hlti : (j : Int) < (T.length : Int) := by omega
      have Htk : Hid ((T.take (j + 1)).foldl (stepF N) G = stepF N ((T.take j).foldl (stepF N) G) T[j]) := Lib.hid (by rw [List.take_add_one, List.getElem?_eq_getElem hlt, List.foldl_append]; rfl)
      have hn12 := Hshort.out T[j] (List.getElem_mem hlt)
      have hdr : (T.drop j).flatMap (entC N) = entC N T[j] ++ (T.drop (j + 1)).flatMap (entC N) := by rw [List.drop_eq_getElem_cons hlt, List.flatMap_cons]
      have hlen2 : (entC N T[j] ++ (T.drop (j + 1)).flatMap (entC N)).length ≤ 1000000 := by
        rw [← hdr]
        have := Hflat.out (T.drop j) (fun n hn => Hshort.out n (List.mem_of_mem_drop hn))
        rw [List.length_drop] at this
        omega
      have HRj : Hid (RdAt wr q b (entC N T[j] ++ (T.drop (j + 1)).flatMap (entC N))) := Lib.hid (by rw [← hdr]; exact HR.out)
      have hbld : ((T.take j).foldl (stepF N) G).length < maxLen := by
        have := steps_len N (T.take j) G
        rw [List.length_take] at this
        unfold maxLen
        omega
      have Hsome : Hid ((getS T[j] N).isSome = true → (atF T[j] N).1.length ≤ 255 ∧ (atF T[j] N).2.length ≤ 3000 ∧ (atF T[j] N).1 = T[j]) := Lib.hid (fun hs => by
        obtain ⟨h1, h2⟩ := getS_some hs
        have := HM.out.2 _ h1
        exact ⟨this.1, this.2, h2⟩)
      clear hdr HR
      generalize T[j] = n at *
      generalize (T.take j).foldl (stepF N) G = S at *
      generalize hrest : (T.drop (j + 1)).flatMap (entC N) = rest at *
      have Hrest := Lib.hid hrest
      clear hrest
      cases his : (getS n N).isSome with
      | true =>
        obtain ⟨hm1, hm2, hm3⟩ := Hsome.out his
        have He : Hid (entC N n = leB 1 1 ++ fileB (atF n N)) := Lib.hid (by unfold entC; rw [if_pos his])
        have Hst : Hid (stepF N S n = putS (atF n N) S) := Lib.hid (by unfold stepF; rw [if_pos his])
        rw [He.out, List.append_assoc] at hlen2
        have HRe : Hid (RdAt wr q b (leB 1 1 ++ (fileB (atF n N) ++ rest))) := Lib.hid (by have := HRj.out; rw [He.out, List.append_assoc] at this; exact this)
        have hlen3 : (fileB (atF n N) ++ rest).length ≤ 1000000 := by rw [List.length_append] at hlen2; omega
        clear his Hsome HRj
        generalize hf : atF n N = f at *
        clear hf
        obtain ⟨fn, ft⟩ := f
        simp only at hm1 hm2 hm3
        clear hm3
        have e2 := rdnum_any wr q b (leB 1 1) _ (by simp [length_leB]) hlen2 HRe.out
        rw [length_leB, numB_leB_lt (by omega)] at e2
        go_wp2_with fail
        refine e2.mono ?_
        rintro e w2 ⟨rfl, hR2, hO2⟩
        have HO2 : Hid (Only [q, c] w0 w2) := Lib.hid ((HO.out.trans hO2).into (fun k hk => .inl (by simp at hk ⊢; omega)))
        have HR2 := Lib.hid hR2
        have Hset2 := Lib.hid (Hset.out.keep hO2 (by simp; omega))
        have hsz2 := hO2.size
        clear hR2 hO2 Hset e2
        go_wp2_with fail
        refine (rdfile_any _ q b (fn, ft) _ hm1 hm2 hlen3 HR2.out (by omega) (by omega)).mono ?_
        rintro e w3 ⟨rfl, hR3, hO3⟩
        unfold fileV encStr
        simp only
        have HO3 : Hid (Only [q, c] w0 w3) := Lib.hid ((HO2.out.trans hO3).into (fun k hk => .inl (by simp at hk ⊢; omega)))
        have HR3 := Lib.hid hR3
        have Hset3 := Lib.hid (Hset2.out.keep hO3 (by simp; omega))
        clear hR3 hO3 Hset2
        have hOa3 := Lib.hid ((Only.refl [] w3).alloc (.cells #[.string ⟨fn.toArray⟩, .string ⟨ft.toArray⟩] 48))
        have hqb := IsBlk.made w3 (.cells #[.string ⟨fn.toArray⟩, .string ⟨ft.toArray⟩] 48)
        have Hq0 : Hid ((w3.alloc (.cells #[.string ⟨fn.toArray⟩, .string ⟨ft.toArray⟩] 48)).cell? ⟨w3.heap.size, 0, none⟩ = some (.string ⟨fn.toArray⟩)) := Lib.hid (hqb.cell 0)
        have Hq1 : Hid ((w3.alloc (.cells #[.string ⟨fn.toArray⟩, .string ⟨ft.toArray⟩] 48)).cell? ⟨w3.heap.size, 1, none⟩ = some (.string ⟨ft.toArray⟩)) := Lib.hid (hqb.cell 1)
        have Hset4 := Lib.hid (Hset3.out.more hOa3.out)
        have HR4 := Lib.hid (HR3.out.keep hOa3.out (by simp) (by simp))
        have HO4 : Hid (Only [q, c] w0 (w3.alloc (.cells #[.string ⟨fn.toArray⟩, .string ⟨ft.toArray⟩] 48))) := Lib.hid ((HO3.out.trans hOa3.out).into (fun k hk => .inl (by simpa using hk)))
        clear hqb hOa3 HR3 HO3 Hset3
        have hfnm : fn.length ≤ maxLen := by unfold maxLen; omega
        go_wp2_with (refine wpList_mapUpdate_own _ rfl _ _ _ _ rfl 9 48 (string_keyed Tryz.underlying9) Tryz.underlying57 RF c _ _ rfl Hset4.out hbld (encStr fn) (fileV (fn, ft)) (.string fn) rfl rfl (key_str hfnm) (fileD (fn, ft)) [] (RF_file _) ?_; intro W5 h5 hg5)
        have hO5 : Only [c] _ W5 := ⟨hg5.os, hg5.tape, hg5.output, hg5.size, fun k hk hm => hg5.block k hk (fun e => by injection e with e; simp at hm; omega)⟩
        have hR5 := HR4.out.keep hO5 (by simp; omega) (by simp; omega)
        have hO6 : Only [q, c] w0 W5 := (HO4.out.trans hO5).into (fun k hk => .inl (by simp at hk ⊢; omega))
        go_roundw
        case rel =>
          refine ⟨j + 1, by omega, by go_num, ?_, by rw [Hrest.out]; exact hR5, hO6⟩
          rw [Htk.out, Hst.out]
          have := put_setD (fn, ft) S
          simp only at this
          rw [this] at h5
          exact SetAt.tight h5
        case measure => simp [intOf]; omega
      | false =>
        have He : Hid (entC N n = leB 1 0 ++ (leB 1 n.length ++ n)) := Lib.hid (by unfold entC; rw [if_neg (by rw [his]; simp)])
        have Hst : Hid (stepF N S n = delS n S) := Lib.hid (by unfold stepF; rw [if_neg (by rw [his]; simp)])
        rw [He.out, List.append_assoc] at hlen2
        have HRe : Hid (RdAt wr q b (leB 1 0 ++ (leB 1 n.length ++ n ++ rest))) := Lib.hid (by have := HRj.out; rw [He.out, List.append_assoc] at this; exact this)
        have hlen3 : (leB 1 n.length ++ n ++ rest).length ≤ 1000000 := by rw [List.length_append] at hlen2; omega
        clear his Hsome HRj
        have e2 := rdnum_any wr q b (leB 1 0) _ (by simp [length_leB]) hlen2 HRe.out
        rw [length_leB, numB_leB_lt (by omega)] at e2
        go_wp2_with fail
        refine e2.mono ?_
        rintro e w2 ⟨rfl, hR2, hO2⟩
        have HO2 : Hid (Only [q, c] w0 w2) := Lib.hid ((HO.out.trans hO2).into (fun k hk => .inl (by simp at hk ⊢; omega)))
        have HR2 := Lib.hid hR2
        have Hset2 := Lib.hid (Hset.out.keep hO2 (by simp; omega))
        have hsz2 := hO2.size
        clear hR2 hO2 Hset e2
        go_wp2_with fail
        refine (rdtext_any _ q b 1 n rest (by omega) (by simp; omega) hlen3 HR2.out).mono ?_
        rintro e w3 ⟨rfl, hR3, hO3⟩
        unfold encStr
        have HO3 : Hid (Only [q, c] w0 w3) := Lib.hid ((HO2.out.trans hO3).into (fun k hk => .inl (by simp at hk ⊢; omega)))
        have HR3 := Lib.hid hR3
        have Hset3 := Lib.hid (Hset2.out.keep hO3 (by simp; omega))
        clear hR3 hO3 Hset2
        have hnm : n.length ≤ maxLen := by unfold maxLen; omega
        go_wp2_with (at_delete; refine wpList_delete_own _ rfl _ _ 57 9 rfl 48 (string_keyed Tryz.underlying9) Tryz.underlying57 RF c _ _ rfl Hset3.out (encStr n) (.string n) rfl (key_str hnm) ?_; intro W5 h5 hg5)
        have hg5 := hg5.grown
        have hO5 : Only [c] _ W5 := ⟨hg5.os, hg5.tape, hg5.output, hg5.size, fun k hk hm => hg5.block k hk (fun e => by injection e with e; simp at hm; omega)⟩
        have hR5 := HR3.out.keep hO5 (by simp; omega) (by simp; omega)
        have hO6 : Only [q, c] w0 W5 := (HO3.out.trans hO5).into (fun k hk => .inl (by simp at hk ⊢; omega))
        go_roundw
        case rel =>
          refine ⟨j + 1, by omega, by go_num, ?_, by rw [Hrest.out]; exact hR5, hO6⟩
          rw [Htk.out, Hst.out]
          rw [del_setD n S] at h5
          exact SetAt.tight h5
        case measure => simp [intOf]; omega
    · have hge : ¬ (j : Int) < (T.length : Int) := by omega
      have hset := Hset.out
      rw [List.take_of_length_le (by omega), Hend.out _ hset.rise rfl] at hset
      have HOw : Hid (Only [] w wr) := Lib.hid ((HOw0.out.trans HO.out).into (fun k hk => by simp at hk; have := Hq.out; exact .inr (by omega)))
      have HsN := Lib.hid hset
      clear hset Hset
      go_wp2_with fail
      refine (list_any _ c N HsN.out (by omega)).mono ?_
      rintro e w5 ⟨v5, rfl, hv5, hO5⟩
      obtain ⟨aT, cT, rfl, hfT, hbT⟩ := hv5.files
      have HfT := Lib.hid hfT
      have HO5 := Lib.hid (HOw.out.plus hO5)
      clear hv5 hfT hbT hO5
      go_wp2_with fail
      refine (setOf_any _ aT _ cT N HfT.out (fun f hf => by have := HM.out.2 f hf; unfold maxLen; omega) (by unfold maxLen; omega)).mono ?_
      rintro e w6 ⟨hyes, hno, hO6⟩
      obtain ⟨bn, rfl, hset, hbn⟩ := hyes HN.out.sound
      rw [HN.out.build] at hset
      have HO6 := Lib.hid (HO5.out.plus hO6)
      have Hset := Lib.hid hset
      have hqb : q ≤ bn := by have := HO5.out.size; have := Hq.out; omega
      clear hyes hno hO6 hset
      go_wp2_with fail
      refine (change_gen _ bn m G N (Hm.out.more HO6.out) Hset.out HM.out HG.out.modest (by omega)).mono ?_
      rintro e w7 ⟨v7, rfl, hv7, hO7⟩
      rw [Hcb.out] at hv7
      obtain ⟨a7, c7, rfl, hs7, hn7, -⟩ := OwnB.shape hv7
      have Hs7 := Lib.hid hs7
      have HO7 := Lib.hid (HO6.out.plus hO7)
      have Hset7 := Lib.hid (Hset.out.more hO7)
      clear hv7 hs7 hn7 hO7 Hset
      go_wp2_with fail
      refine (equal_same _ a7 _ _ c7 cap B Hs7.out (H.out.more HO7.out)).mono ?_
      rintro e w' ⟨rfl, rfl⟩
      go_wp2
      go_ret2
      exact ⟨bn, rfl, Hset7.out, by have := Hq.out; omega, HO7.out⟩

end Go.Proofs.YtfampoblcielpaaGreat
