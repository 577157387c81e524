/-
  Whether two sets of files are the same (maps.Equal).
-/
import Derived.Test.YtnieaeoijdmheaaStG
import Derived.Maps.RangeWalk
namespace Go.Proofs.Ytnieaeoijdmheaa
set_option maxRecDepth 100000
set_option linter.unusedVariables false
open Go.RowKit Go.Sort Go.Maps

theorem rise_ne {f g : FileM} (h : bytesBefore f.1 g.1 = true) : f ≠ g := fun e => by
  subst e; exact List.lt_irrefl _ (before_lt h)
theorem before_trans {a b c : FileM} (h : bytesBefore a.1 b.1 = true) (k : b.1 < c.1) : a.1 < c.1 := List.lt_trans (before_lt h) k
theorem sub_tail {f g : FileM} {F G : List FileM} (hF : Rise (f :: F)) (hG : Rise (g :: G)) (hs : ∀ x ∈ f :: F, x ∈ g :: G) (hne : f ≠ g) : ∀ x ∈ f :: F, x ∈ G := by
  have hfG : f ∈ G := (List.mem_cons.1 (hs f (by simp))).resolve_left hne
  have hgf := before_lt ((List.pairwise_cons.1 hG).1 f hfG)
  intro x hx
  refine (List.mem_cons.1 (hs x hx)).resolve_left (fun e => ?_)
  subst e
  rcases List.mem_cons.1 hx with e | e
  · exact hne e.symm
  · exact List.lt_irrefl _ (List.lt_trans hgf (before_lt ((List.pairwise_cons.1 hF).1 x e)))
theorem sub_same {f : FileM} {F G : List FileM} (hF : Rise (f :: F)) (hs : ∀ x ∈ f :: F, x ∈ f :: G) : ∀ x ∈ F, x ∈ G := fun x hx =>
  (List.mem_cons.1 (hs x (by simp [hx]))).resolve_left (fun e => by subst e; exact rise_ne ((List.pairwise_cons.1 hF).1 x hx) rfl)
theorem sub_len : ∀ (G F : List FileM), Rise F → Rise G → (∀ x ∈ F, x ∈ G) → F.length ≤ G.length
  | _, [], _, _, _ => Nat.zero_le _
  | [], f :: F, _, _, h => by have := h f (by simp); cases this
  | g :: G, f :: F, hF, hG, h => by
    by_cases e : f = g
    · subst e
      have := sub_len G F (List.pairwise_cons.1 hF).2 (List.pairwise_cons.1 hG).2 (sub_same hF h)
      simp only [List.length_cons]; omega
    · have := sub_len G (f :: F) hF (List.pairwise_cons.1 hG).2 (sub_tail hF hG h e)
      simp only [List.length_cons] at this ⊢; omega
theorem sub_eq : ∀ (G F : List FileM), Rise F → Rise G → (∀ x ∈ F, x ∈ G) → F.length = G.length → F = G
  | [], [], _, _, _, _ => rfl
  | g :: G, [], _, _, _, hl => by simp at hl
  | [], f :: F, _, _, h, _ => by have := h f (by simp); cases this
  | g :: G, f :: F, hF, hG, h, hl => by
    by_cases e : f = g
    · subst e
      rw [sub_eq G F (List.pairwise_cons.1 hF).2 (List.pairwise_cons.1 hG).2 (sub_same hF h) (by simpa using hl)]
    · have := sub_len G (f :: F) hF (List.pairwise_cons.1 hG).2 (sub_tail hF hG h e)
      simp only [List.length_cons] at this hl; omega

set_option maxHeartbeats 8000000 in
theorem sameSet_any (w : World) (b c : Nat) (F G : List FileM) (hf : SetAt w b F) (hg : SetAt w c G) :
    Calls Try.prog 25 #[.map (some b), .map (some c)] w fun e w' => e = .returned (.bool (decide (F = G))) ∧ Only [] w w' := by
  have hlf := World.ownsMap.len hf Try.underlying56
  have hlg := World.ownsMap.len hg Try.underlying56
  rw [show Maps.size (setD F) = F.length by simp [setD, Maps.size]] at hlf
  rw [show Maps.size (setD G) = G.length by simp [setD, Maps.size]] at hlg
  have hRF := Lib.hid hf.rise
  have hRG := Lib.hid hg.rise
  have Hf := Lib.hid hf
  have Hg := Lib.hid hg
  clear hf hg
  by_cases hsz : F.length = G.length
  · have hszi : (F.length : Int) = (G.length : Int) := by omega
    have Hsz := Lib.hid hsz
    clear hsz
    go_enter Try.func25, Try.ntmps25
    go_wp2_with (first
      | (at_range; refine wpList_range_own _ rfl _ _ rfl 9 33 (string_keyed Try.underlying9) Try.underlying56 RF b _ _ rfl Hf.out ?_; intro w0 hrg0 hg0 hs0)
      | go_in)
    go_frame
    have hO0 : Only [] w w0 := ⟨hg0.os, hg0.tape, hg0.output, hg0.size, fun k hk _ => hg0.block k hk (by simp)⟩
    have HO0 := Lib.hid hO0
    have Hrg0 := Lib.hid hrg0
    clear hO0 hrg0 hg0 hs0
    go_loopw [18] (fun _ wr => ∃ (left : Lit → Bool) (cnt : Nat), wr.ranges Try.prog 9 RF b w.heap.size F.length (setD F) left cnt ∧ Only [] w wr ∧ Hid (∀ f ∈ F, left (.string f.1) = false → getS f.1 G = some f))
      (fun _ wr => wr.rangeLeft b w.heap.size)
    case atStart =>
      refine ⟨_, _, Hrg0.out, HO0.out, Lib.hid (fun f hf hl => ?_)⟩
      have : Maps.has (setD F) (.string f.1) = true := by
        show (F.map entD).any (fun p => p.1.sameKey (.string f.1)) = true
        rw [List.any_eq_true]
        exact ⟨entD f, List.mem_map.2 ⟨f, hf, rfl⟩, by simp [entD, Lit.sameKey]⟩
      rw [this] at hl; cases hl
    case round =>
      obtain ⟨left, cnt, hrg, hO, hG⟩ := hrel
      have HO := Lib.hid hO
      clear hO
      go_wp2_with (first
        | (at_next; refine wpList_next_ranges _ rfl _ rfl 9 (string_keyed Try.underlying9) RF encStr fileV (fun key kl hk => by obtain ⟨x, hx, _⟩ := Maps.keyOf_str Try.underlying9 hk; exact ⟨x, hx⟩) (fun v y hy => by obtain ⟨f, hf, _⟩ := RF_inv (d := y.1) (ps := y.2) hy; exact ⟨f, hf⟩) b w.heap.size _ _ _ _ rfl hrg ?_ ?_)
        | go_in)
      · intro hc0 hl0
        go_wp2
        go_ret
        refine ⟨?_, HO.out⟩
        have : F = G := sub_eq G F hRF.out hRG.out (fun x hx => List.mem_of_find?_eq_some (hG.out x hx (hl0 _))) Hsz.out
        simp [this]
      · intro x fn ft kl yd yp w2 cnt2 hkey hlk hv hat hrg2 hlt hg2 hs2 hen
        obtain ⟨x', ex, rfl, hxl⟩ := Maps.keyOf_str Try.underlying9 hkey
        obtain rfl : x = x' := encStr_inj ex
        have hO2 : Only [] w w2 := by
          have h0 := HO.out
          exact ⟨hg2.os.trans h0.os, hg2.tape.trans h0.tape, hg2.output.trans h0.output, Nat.le_trans h0.size hg2.size, fun k hk hm => (hg2.block k (Nat.lt_of_lt_of_le hk h0.size) (fun e => by injection e with e; omega)).trans (h0.block k hk hm)⟩
        have hxF : getS x F = some (fn, ft) ∧ fn = x := by
          have h1 := hat .nil
          rw [at_setD] at h1
          have h2 : yd = fileD (fn, ft) := by rw [RF_file] at hv; injection hv with hv; injection hv with hv; exact hv.symm
          cases hgx : getS x F with
          | none => rw [hgx] at h1; simp only at h1; rw [h2] at h1; cases h1
          | some f' => rw [hgx] at h1; simp only at h1; rw [h2] at h1; obtain rfl := fileD_inj h1; exact ⟨rfl, get_name hgx⟩
        have HxF := Lib.hid hxF
        have HO2 := Lib.hid hO2
        have Hrg2 := Lib.hid hrg2
        have hgs := Hg.out.more hO2
        have Hrg := Lib.hid hrg
        clear hat hkey hv hg2 hs2 ex hO2 hxF hrg2 hrg
        have hget := fun o : Obj => run_get (w2.alloc o) c G x true (hgs.more ((Only.refl [] w2).alloc o)) hxl
        simp only [if_true] at hget
        obtain ⟨⟨yn, yt⟩, hy⟩ : ∃ y, (getS x G).getD ([], []) = y := ⟨_, rfl⟩
        have Hy := Lib.hid hy
        rw [hy] at hget
        obtain ⟨is, his⟩ : ∃ is, (getS x G).isSome = is := ⟨_, rfl⟩
        have His := Lib.hid his
        rw [his] at hget
        unfold fileV encStr at hget hen
        simp only at hget hen
        clear hy his hgs
        have hOa := Lib.hid (((Only.refl [] w2).alloc (.cells #[.string ⟨fn.toArray⟩, .string ⟨ft.toArray⟩] 33)).alloc (.cells #[.string ⟨yn.toArray⟩, .string ⟨yt.toArray⟩] 33))
        have Hbad : Hid (¬ getS x G = some (fn, ft) → ¬ F = G) := Lib.hid (fun hn e => by
          subst e; exact hn HxF.out.1)
        cases is with
        | false =>
          go_wp2
          go_ret
          refine ⟨?_, HO2.out.plus hOa.out⟩
          have : ¬ F = G := Hbad.out (fun e => by have := His.out; rw [e] at this; cases this)
          simp [this]
        | true =>
          have Hsome : Hid (getS x G = some (yn, yt)) := Lib.hid (by
            obtain ⟨g, hg⟩ := Option.isSome_iff_exists.1 His.out
            have := Hy.out
            rw [hg] at this ⊢
            exact congrArg some this)
          by_cases hb1 : fn = yn
          · subst hb1
            by_cases hb2 : ft = yt
            · subst hb2
              go_wp2
              go_roundw
              case rel =>
                refine ⟨_, cnt2, (Hrg2.out.alloc _).alloc _, HO2.out.plus hOa.out, Lib.hid (fun g hg hl => ?_)⟩
                by_cases e : g.1 = x
                · have h1 : getS g.1 F = some g := get_mem hRF.out hg
                  rw [e, HxF.out.1] at h1
                  injection h1 with h1
                  rw [e, Hsome.out, h1]
                · refine hG.out g hg ?_
                  have h3 : (Lit.string g.1).sameKey (.string x) = false := by simp [Lit.sameKey, e]
                  simpa [h3] using hl
              case measure => rw [((Hrg2.out.alloc _).alloc _).left_eq, Hrg.out.left_eq]; exact hlt
            · go_wp2
              go_ret
              refine ⟨?_, HO2.out.plus hOa.out⟩
              have : ¬ F = G := Hbad.out (fun e => by rw [Hsome.out] at e; injection e with e; injection e with e1 e2; exact hb2 e2.symm)
              simp [this]
          · go_wp2
            go_ret
            refine ⟨?_, HO2.out.plus hOa.out⟩
            have : ¬ F = G := Hbad.out (fun e => by rw [Hsome.out] at e; injection e with e; injection e with e1 e2; exact hb1 e1.symm)
            simp [this]
  · have hne : ¬ ((F.length : Int) = (G.length : Int)) := by omega
    go_enter Try.func25, Try.ntmps25
    go_wp2
    go_ret
    refine ⟨?_, Only.refl _ _⟩
    have : ¬ F = G := fun e => hsz (by rw [e])
    simp [this]

end Go.Proofs.Ytnieaeoijdmheaa
